/- Lemmas. -/
import Derived.Test.YtlibdcmcbinfnaaGreatMA25
set_option maxHeartbeats 100000000
set_option maxRecDepth 1000000
namespace Go.Proofs.YtlibdcmcbinfnaaGreat
open _root_.Go.Proofs.Tryz List Nat
open Go.RowKit
theorem zry(av:Option Addr)(n cap:Nat)(X:List Rc)(w:World)(row:zbz w av n X)(hn:n<=1000000)(hpos:0<n):
  Calls prog 218 #[.slice av n cap] w λe w'=>e= .returned (.tuple #[.agg (cRc (ze4 X (n - 1))).toArray,.bool true])/\Bw w w':=by
 have K0:=Blk.new w 92 (cRc zRc).toArray;have HM:=kA (zxh av n cap X (w.alloc (.cells (cRc zRc).toArray 92)) (row.keep (zaa _ _)) hn hpos);obtain⟨y,hy⟩:∃y,y=ze4 X (n - 1):=⟨_,rfl⟩;rw[<-hy]at HM ⊢
 have HF:Hid (∀W,Below (w.alloc (.cells (cRc zRc).toArray 92)).heap.size (w.alloc (.cells (cRc zRc).toArray 92)) W->W.there w.heap.size 0 12/\Blk (W.setCells w.heap.size 0 (cRc y)) w.heap.size 92 (cRc y).toArray/\Bw w (W.setCells w.heap.size 0 (cRc y))):=kA (λW hb=>by
  have k1:=K0.keep hb;have:=zaf (cRc y) (o:=0) k1 (Nat.le_refl 12);rw[zb5]at this
  exact⟨zae k1 (Nat.le_refl 12),this,zab _ (zad (zaa _ _) hb) (Nat.le_refl _)⟩)
 have Ha:=kA (zaK y);have zL:=kA (zbV y);obtain⟨XQ,DC⟩:∃XQ,XQ=cRc y:=⟨_,rfl⟩;have SH:Hid (XQ.length=12):=kA (by rw[DC];rfl);rw[<-DC]at HM HF Ha zL ⊢;have Hn:Hid ((prog.info? 92).map (·.size)=some XQ.toArray.size):=Ha;have n1:((n:Int)==0)=false:=by simp;omega
 clear K0 hy DC row;go_enter func218,ntmps218;go_wp2_with fail;refine HM.mono ?_;rintro e w1 ⟨rfl,hb⟩;have Ve:=kA (HF w1 hb);have kt:Hid (w1.there w.heap.size 0 XQ.toArray.size):=kA (by show w1.there w.heap.size 0 XQ.length;rw[SH.out];exact Ve.1);clear hb HF HM;go_wp2_with (refine wpList_store_mid rfl 92 (.tmp 2) (.tmp 9) rfl w.heap.size 0 XQ.toArray rfl rfl kt Hn zL ?_);refine fin (λW=>Blk W w.heap.size 92 XQ.toArray/\Bw w W) Ve.2 ?_;rintro W ⟨kr,hbf⟩;have hl:=run_loadVar_mid W w.heap.size 0 92 XQ _ (zac kr) underlying92 rfl Ha
 (try simp only[Act.put,setIfInBounds_toArray,set_cons_zero,set_cons_succ])
 exact bodyPost_ret (v:= .tuple #[.agg XQ.toArray,.bool true]) (zam results218 rfl rfl hl) rfl ⟨rfl,hbf⟩
structure MrgAt (F O Z F' O':List Rc):Prop where
 rz:zdy Z
 rf:zdy F'
 ro:zdy O'
 zf:∀z∈Z,∀x∈F',z.id<x.id
 zo:∀z∈Z,∀x∈O',z.id<x.id
 lk:∀k,(look k Z).or ((look k F').or (look k O'))=(look k F).or (look k O)
variable{F O Z F' O' X:List Rc}{f o x:Rc}{Q:Exit->Go.Act->World->Prop}{w W:World}{ops:Array Oper}{op:Oper}{a:Go.Act}{g:Nat}
theorem zl4(hF:zdy F)(hO:zdy O):MrgAt F O [] F O:=⟨List.Pairwise.nil,hF,hO,(λz hz=>by cases hz),(λz hz=>by cases hz),λk=>rfl⟩
theorem zhj{r:Rc}(h:zdy Z)(hl:∀z∈Z,z.id<r.id):zdy (Z++[r]):=
 pairwise_append.2 ⟨h,pairwise_singleton _ _,λa ha b hb=>by rw[mem_singleton.1 hb];exact hl a ha⟩
theorem zi5(k:Int)(r:Rc):look k [r]=if r.id=k then some r else none:=by rw[zbl];rfl
theorem MrgAt.old(h:MrgAt F O Z (f::F') (o::O'))(hlt:o.id<f.id):MrgAt F O (Z++[o]) (f::F') O':=by
 obtain⟨f1,f2⟩:=zcj.1 h.rf;obtain⟨o1,o2⟩:=zcj.1 h.ro;have YG:∀x∈f::F',o.id<x.id:=λx hx=>by
  rcases mem_cons.1 hx with rfl | hx
  ·exact hlt
  ·have:=f1 x hx;omega
 refine⟨zhj h.rz (λz hz=>h.zo z hz o mem_cons_self),h.rf,o2,λz hz x hx=> ?_,λz hz x hx=> ?_,λk=> ?_⟩
 ·rcases mem_append.1 hz with hz | hz
  ·exact h.zf z hz x hx
  ·rw[mem_singleton.1 hz];exact YG x hx
 ·rcases mem_append.1 hz with hz | hz
  ·exact h.zo z hz x (mem_cons_of_mem _ hx)
  ·rw[mem_singleton.1 hz];exact o1 x hx
 ·rw[<-h.lk k,zcU,zi5,zbl k o,Option.or_assoc]
  by_cases hk:o.id=k
  ·rw[if_pos hk,if_pos hk,ze3 (k:=k) (L:=f::F') (λx hx=>by have:=YG x hx;omega)];simp
  ·rw[if_neg hk,if_neg hk,Option.none_or]
theorem MrgAt.fresh(h:MrgAt F O Z (f::F') (o::O'))(hlt:f.id<o.id):MrgAt F O (Z++[f]) F' (o::O'):=by
 obtain⟨f1,f2⟩:=zcj.1 h.rf;obtain⟨o1,o2⟩:=zcj.1 h.ro;refine⟨zhj h.rz (λz hz=>h.zf z hz f mem_cons_self),f2,h.ro,λz hz x hx=> ?_,λz hz x hx=> ?_,λk=> ?_⟩
 ·rcases mem_append.1 hz with hz | hz
  ·exact h.zf z hz x (mem_cons_of_mem _ hx)
  ·rw[mem_singleton.1 hz];exact f1 x hx
 ·rcases mem_append.1 hz with hz | hz
  ·exact h.zo z hz x hx
  ·rw[mem_singleton.1 hz];rcases mem_cons.1 hx with rfl | hx
   ·exact hlt
   ·have:=o1 x hx;omega
 ·rw[<-h.lk k,zcU,zi5,zbl k f,Option.or_assoc]
  by_cases hk:f.id=k
  ·rw[if_pos hk,if_pos hk];simp
  ·rw[if_neg hk,if_neg hk,Option.none_or]
theorem MrgAt.both(h:MrgAt F O Z (f::F') (o::O'))(he:f.id=o.id):MrgAt F O (Z++[f]) F' O':=by
 obtain⟨f1,f2⟩:=zcj.1 h.rf;obtain⟨o1,o2⟩:=zcj.1 h.ro;refine⟨zhj h.rz (λz hz=>h.zf z hz f mem_cons_self),f2,o2,λz hz x hx=> ?_,λz hz x hx=> ?_,λk=> ?_⟩
 ·rcases mem_append.1 hz with hz | hz
  ·exact h.zf z hz x (mem_cons_of_mem _ hx)
  ·rw[mem_singleton.1 hz];exact f1 x hx
 ·rcases mem_append.1 hz with hz | hz
  ·exact h.zo z hz x (mem_cons_of_mem _ hx)
  ·rw[mem_singleton.1 hz,he];exact o1 x hx
 ·rw[<-h.lk k,zcU,zi5,zbl k f,zbl k o,Option.or_assoc]
  by_cases hk:f.id=k
  ·rw[if_pos hk,if_pos hk];simp
  ·rw[if_neg hk,if_neg hk,if_neg om,Option.none_or]
theorem MrgAt.last(h:MrgAt F O Z F' O')(he:F'=[]∨O'=[]):zdy (Z++F'++O')/\∀k,look k (Z++F'++O')=(look k F).or (look k O):=by
 refine⟨?_,λk=>by rw[zcU,zcU,Option.or_assoc];exact h.lk k⟩;rcases he with rfl | rfl
 ·rw[append_nil];exact pairwise_append.2 ⟨h.rz,h.ro,h.zo⟩
 ·rw[append_nil];exact pairwise_append.2 ⟨h.rz,h.rf,h.zf⟩
theorem zyU{u2 u3 u4 u5 u6 u7 u8 u9 u10 u11 u12 u13 u14 u15 u16 u17 u18 u19 u20 u21 u22 u23 u24 u25 u26 u27 u28 u29 u30 u31 u32 u33 u34 u35 u36 u37 u38 u39 u40 u41 u42 u43 u44 u45 u46 u47 u48 u49 u50 u51 u52 u53 u54 u55:Value}{bf of nf cf bo oo no co:Nat}{XF XO:List Value} 
  (hQ:∀c a d v w,Q (.panic c) (a.put d v) w->Q (.panic c) a w)
  (hf:0<nf)(ho:0<no)
  (SJ:XF.length=12)(SK:XO.length=12)(ba:XF.toArray.all (·.oneCell')=true)(bc:XO.toArray.all (·.oneCell')=true)
  (hS:∀W,Bw w W->W.rangeAt bf of XF/\W.rangeAt bo oo XO)
  (hk:∀W' g6 g7,Blk W' g6 92 XF.toArray->Blk W' g7 92 XO.toArray->g6≠g7->w.heap.size<=g6->w.heap.size<=g7->Bw w W'->Q .normal { tmps:= #[.slice (some ⟨bf,of,none⟩) nf cf,.slice (some ⟨bo,oo,none⟩) no co,u2,u3,u4,u5,.pointer (some ⟨g6,0,none⟩),.pointer (some ⟨g7,0,none⟩),u8,u9,u10,u11,u12,u13,u14,u15,u16,u17,u18,u19,u20,u21,u22,u23,.slice (some ⟨bf,of,none⟩) nf cf,.pointer (some ⟨bf,of,none⟩),.agg XF.toArray,.slice (some ⟨bo,oo,none⟩) no co,.pointer (some ⟨bo,oo,none⟩),.agg XO.toArray,u30,u31,u32,u33,u34,u35,u36,u37,u38,u39,u40,u41,u42,u43,u44,u45,u46,u47,u48,u49,u50,u51,u52,u53,u54,u55],defers:=[] } W'):
  (Code.region 3 #[{ dst := some 24, op := Op.move (Operand.tmp 0), type := 85, pos := "record.go:103", after := #[], guard := none }, { dst := some 25, op := Op.indexAddr 85 (Operand.tmp 24) (Operand.const (Value.int IntKind.i64 0)), type := 0, pos := "record.go:103", after := #[{ on := 0, ground := Ground.data }], guard := none }, { dst := some 26, op := Op.load 92 (Operand.tmp 25), type := 92, pos := "record.go:103", after := #[{ on := 1, ground := Ground.data }], guard := none }, { dst := some 27, op := Op.move (Operand.tmp 1), type := 85, pos := "record.go:103", after := #[{ on := 8, ground := Ground.gcOnly Departure.lateStores }], guard := none }, { dst := some 28, op := Op.indexAddr 85 (Operand.tmp 27) (Operand.const (Value.int IntKind.i64 0)), type := 0, pos := "record.go:103", after := #[{ on := 3, ground := Ground.data }, { on := 8, ground := Ground.gcOnly Departure.lateStores }], guard := none }, { dst := some 29, op := Op.load 92 (Operand.tmp 28), type := 92, pos := "record.go:103", after := #[{ on := 4, ground := Ground.data }, { on := 8, ground := Ground.gcOnly Departure.lateStores }], guard := none }, { dst := some 6, op := Op.alloc 92, type := 0, pos := "record.go:103", after := #[], guard := none }, { dst := some 7, op := Op.alloc 92, type := 0, pos := "record.go:103", after := #[], guard := none }, { dst := none, op := Op.store 92 (Operand.tmp 6) (Operand.tmp 26), type := 0, pos := "record.go:103", after := #[{ on := 6, ground := Ground.data }, { on := 2, ground := Ground.data }, { on := 0, ground := Ground.phase }, { on := 1, ground := Ground.phase }, { on := 2, ground := Ground.phase }, { on := 3, ground := Ground.textOnly Departure.lateStores }, { on := 4, ground := Ground.textOnly Departure.lateStores }, { on := 5, ground := Ground.textOnly Departure.lateStores }, { on := 6, ground := Ground.phase }, { on := 7, ground := Ground.phase }], guard := none }, { dst := none, op := Op.store 92 (Operand.tmp 7) (Operand.tmp 29), type := 0, pos := "record.go:103", after := #[{ on := 7, ground := Ground.data }, { on := 5, ground := Ground.data }, { on := 8, ground := Ground.chain }, { on := 0, ground := Ground.phase }, { on := 1, ground := Ground.phase }, { on := 2, ground := Ground.phase }, { on := 3, ground := Ground.phase }, { on := 4, ground := Ground.phase }, { on := 5, ground := Ground.phase }, { on := 6, ground := Ground.phase }, { on := 7, ground := Ground.phase }, { on := 8, ground := Ground.phase }], guard := none }] true).wp prog Q { tmps := #[.slice (some ⟨bf, of, none⟩) nf cf, .slice (some ⟨bo, oo, none⟩) no co, u2, u3, u4, u5, u6, u7, u8, u9, u10, u11, u12, u13, u14, u15, u16, u17, u18, u19, u20, u21, u22, u23, u24, u25, u26, u27, u28, u29, u30, u31, u32, u33, u34, u35, u36, u37, u38, u39, u40, u41, u42, u43, u44, u45, u46, u47, u48, u49, u50, u51, u52, u53, u54, u55], defers := [] } w := by
 have HK:=kA hk;have HS:=kA hS;have Vr:Hid ((prog.info? 92).map (·.size)=some XF.length):=kA (by rw[SJ];kernel_rfl);have Dl:Hid ((prog.info? 92).map (·.size)=some XO.length):=kA (by rw[SK];kernel_rfl);have jH:Hid ((prog.info? 92).map (·.size)=some XF.toArray.size):=Vr;have jI:Hid ((prog.info? 92).map (·.size)=some XO.toArray.size):=Dl;have xN:=kA ba;have Qi:=kA bc;have zN:=kA SJ;have xe:=kA SK;clear hk hS SJ SK ba bc;refine wp_region_held_drew (S:=λw'=>w'.rangeAt bf of XF/\w'.rangeAt bo oo XO) oM (HS _ (zaE (Below.refl _ _))) (λhHeld=> ?_);refine tk 0 hHeld ?_ (hQ:=λc a w h=>hQ c a _ _ w h);refine tk 1 hHeld ?_ (hQ:=λc a w h=>hQ c a _ _ w h);refine wpAnyH_take (i:=2) (v:=_) rfl oM oM oM (λc a w h=>hQ c a _ _ w h) (yieldsIf_load_mid (by rfl) _ _ rfl _ _ rfl _ _ (λ_ h=>h.1) underlying92 rfl Vr) hHeld ?_;simp only[Act.put,getElem_toArray,getElem_cons_zero,getElem_cons_succ,setIfInBounds_toArray,set_cons_zero,set_cons_succ];refine tk 3 hHeld ?_ (hQ:=λc a w h=>hQ c a _ _ w h);refine tk 4 hHeld ?_ (hQ:=λc a w h=>hQ c a _ _ w h);refine wpAnyH_take (i:=5) (v:=_) rfl oM oM oM (λc a w h=>hQ c a _ _ w h) (yieldsIf_load_mid (by rfl) _ _ rfl _ _ rfl _ _ (λ_ h=>h.2) underlying92 rfl Dl) hHeld ?_;simp only[Act.put,getElem_toArray,getElem_cons_zero,getElem_cons_succ,setIfInBounds_toArray,set_cons_zero,set_cons_succ];refine fin (λW=>Bw w W) (zaE (Below.refl _ _)) ?_;clear hHeld;rintro W hb;have HB:=kA hb;clear hb;refine wpAnyH_ready (rs:=[6,7]) oM (by simp) ?_;refine AllReadyH.cons rfl (λK hK=> ?_) (AllReadyH.cons rfl (λK hK=> ?_) AllReadyH.nil)
 ·go_simp;refine hK.out _ _ (HS _ (zag HB _)) (λhHeld=> ?_);clear hK K;refine fin (λW2=>W.heap.size<W2.heap.size/\Blk W2 W.heap.size 92 (cRc zRc).toArray/\Bw w W2) ⟨by simp,Blk.new _ _ _,zag HB _⟩ ?_;clear hHeld;rintro W2 ⟨hlt,ka,hb⟩;have KA:=kA ka;have Hm:=kA hb;clear ka hb;refine rd 7 (λK hK=> ?_);go_simp;refine hK.out _ _ (HS _ (zag Hm _)) (λhHeld=> ?_);clear hK K;refine fin (λW3=>Blk W3 W.heap.size 92 (cRc zRc).toArray/\Blk W3 W2.heap.size 92 (cRc zRc).toArray/\Bw w W3) ⟨KA.alloc _,Blk.new _ _ _,zag Hm _⟩ ?_;clear hHeld KA;have xA:=HB.size;have XI:=Hm.size;obtain⟨ga,jJ⟩:∃ga,ga=W.heap.size:=⟨_,rfl⟩;obtain⟨gb,xO⟩:∃gb,gb=W2.heap.size:=⟨_,rfl⟩;rw[<-jJ]at hlt xA ⊢;rw[<-xO]at hlt XI ⊢;clear jJ xO HB Hm;rintro W3 ⟨ka,kb,hb⟩;have KA:=kA ka;have KB:=kA kb;have dq:=kA hb;clear ka kb hb;refine rd 8 (λK hK=> ?_);rw[if_pos (by rfl)];refine wp_store_mid 92 (.tmp 6) (.tmp 26) rfl ga 0 XF.toArray rfl rfl (zae KA (by show 0+XF.length<=12;rw[zN.out];exact Nat.le_refl 12)) jH xN ?_;have h1:Blk (W3.setCells ga 0 XF) ga 92 XF.toArray:=by
   have:=zaf XF (o:=0) KA (by rw[zN.out];exact Nat.le_refl 12);rw[zan (by rw[zN.out];rfl)]at this;exact this
  have h2:Blk (W3.setCells ga 0 XF) gb 92 (cRc zRc).toArray:=zat XF KB om;have h3:Bw w (W3.setCells ga 0 XF):=zab XF dq om;refine hK.out _ _ (HS _ h3) (λhHeld=> ?_);clear hK K;refine fin (λW4=>Blk W4 ga 92 XF.toArray/\Blk W4 gb 92 (cRc zRc).toArray/\Bw w W4) ⟨h1,h2,h3⟩ ?_;clear hHeld KA KB dq h1 h2 h3;rintro W4 ⟨k6,k7,hb⟩;have K6:=kA k6;have K7:=kA k7;have Kh:=kA hb;clear k6 k7 hb;refine rd 9 (λK hK=> ?_);rw[if_pos (by rfl)];refine wp_store_mid 92 (.tmp 7) (.tmp 29) rfl gb 0 XO.toArray rfl rfl (zae K7 (by show 0+XO.length<=12;rw[xe.out];exact Nat.le_refl 12)) jI Qi ?_;have h1:Blk (W4.setCells gb 0 XO) gb 92 XO.toArray:=by
   have:=zaf XO (o:=0) K7 (by rw[xe.out];exact Nat.le_refl 12);rw[zan (by rw[xe.out];rfl)]at this;exact this
  have h2:Blk (W4.setCells gb 0 XO) ga 92 XF.toArray:=zat XO K6 om;have h3:Bw w (W4.setCells gb 0 XO):=zab XO Kh om;refine hK.out _ _ (HS _ h3) (λhHeld=> ?_);clear hK K;refine wpAnyH_done oM ?_ _;exact HK _ ga gb h2 h1 om om om h3
 ·go_simp;refine hK.out _ _ (HS _ (zag HB _)) (λhHeld=> ?_);clear hK K;refine fin (λW2=>W.heap.size<W2.heap.size/\Blk W2 W.heap.size 92 (cRc zRc).toArray/\Bw w W2) ⟨by simp,Blk.new _ _ _,zag HB _⟩ ?_;clear hHeld;rintro W2 ⟨hlt,ka,hb⟩;have KA:=kA ka;have Hm:=kA hb;clear ka hb;refine rd 6 (λK hK=> ?_);go_simp;refine hK.out _ _ (HS _ (zag Hm _)) (λhHeld=> ?_);clear hK K;refine fin (λW3=>Blk W3 W.heap.size 92 (cRc zRc).toArray/\Blk W3 W2.heap.size 92 (cRc zRc).toArray/\Bw w W3) ⟨KA.alloc _,Blk.new _ _ _,zag Hm _⟩ ?_;clear hHeld KA;have xA:=HB.size;have XI:=Hm.size;obtain⟨ga,jJ⟩:∃ga,ga=W.heap.size:=⟨_,rfl⟩;obtain⟨gb,xO⟩:∃gb,gb=W2.heap.size:=⟨_,rfl⟩;rw[<-jJ]at hlt xA ⊢;rw[<-xO]at hlt XI ⊢;clear jJ xO HB Hm;rintro W3 ⟨ka,kb,hb⟩;have KA:=kA ka;have KB:=kA kb;have dq:=kA hb;clear ka kb hb;refine rd 8 (λK hK=> ?_);rw[if_pos (by rfl)];refine wp_store_mid 92 (.tmp 6) (.tmp 26) rfl gb 0 XF.toArray rfl rfl (zae KB (by show 0+XF.length<=12;rw[zN.out];exact Nat.le_refl 12)) jH xN ?_;have h1:Blk (W3.setCells gb 0 XF) gb 92 XF.toArray:=by
   have:=zaf XF (o:=0) KB (by rw[zN.out];exact Nat.le_refl 12);rw[zan (by rw[zN.out];rfl)]at this;exact this
  have h2:Blk (W3.setCells gb 0 XF) ga 92 (cRc zRc).toArray:=zat XF KA om;have h3:Bw w (W3.setCells gb 0 XF):=zab XF dq om;refine hK.out _ _ (HS _ h3) (λhHeld=> ?_);clear hK K;refine fin (λW4=>Blk W4 gb 92 XF.toArray/\Blk W4 ga 92 (cRc zRc).toArray/\Bw w W4) ⟨h1,h2,h3⟩ ?_;clear hHeld KA KB dq h1 h2 h3;rintro W4 ⟨k6,k7,hb⟩;have K6:=kA k6;have K7:=kA k7;have Kh:=kA hb;clear k6 k7 hb;refine rd 9 (λK hK=> ?_);rw[if_pos (by rfl)];refine wp_store_mid 92 (.tmp 7) (.tmp 29) rfl ga 0 XO.toArray rfl rfl (zae K7 (by show 0+XO.length<=12;rw[xe.out];exact Nat.le_refl 12)) jI Qi ?_;have h1:Blk (W4.setCells ga 0 XO) ga 92 XO.toArray:=by
   have:=zaf XO (o:=0) K7 (by rw[xe.out];exact Nat.le_refl 12);rw[zan (by rw[xe.out];rfl)]at this;exact this
  have h2:Blk (W4.setCells ga 0 XO) gb 92 XF.toArray:=zat XO K6 om;have h3:Bw w (W4.setCells ga 0 XO):=zab XO Kh om;refine hK.out _ _ (HS _ h3) (λhHeld=> ?_);clear hK K;refine wpAnyH_done oM ?_ _;exact HK _ gb ga h2 h1 om om om h3
def zhI:Value->Nat
 | .slice _ n _=>n
 | _=>0
theorem zrz(x:Rc)(W:World):(Instr.buildSlice 85 1 #[(0,.agg (cRc x).toArray)]).run prog W= .ok (.slice (some ⟨W.heap.size,0,none⟩) 1 1) (W.alloc (.cells (cRc x).toArray 92)):=oM
theorem zyV(x y:Rc)(W:World):(Instr.buildSlice 85 2 #[(0,.agg (cRc x).toArray),(1,.agg (cRc y).toArray)]).run prog W= .ok (.slice (some ⟨W.heap.size,0,none⟩) 2 2) (W.alloc (.cells (cRc x++cRc y).toArray 92)):=oM
theorem zew{rest:List Oper}(Kg:op.guard=none)(t e:TypeId)(x:Operand)(ho:op.op= .buildSlice t 1 #[(0,x)])(X:List Value)(hx:a.eval x= .agg X.toArray)
  (Hf:∀W,(Instr.buildSlice t 1 #[(0,.agg X.toArray)]).run prog W= .ok (.slice (some ⟨W.heap.size,0,none⟩) 1 1) (W.alloc (.cells X.toArray e)))
  (h:wpList prog ops Q rest (a.put op.dst (.slice (some ⟨w.heap.size,0,none⟩) 1 1)) (w.alloc (.cells X.toArray e))):wpList prog ops Q (op::rest) a w:=by
 refine wpList_plain Kg λK hK=> ?_;unfold Oper.wp execOp;simp only[ho];simp[hx,Hf];exact hK _ _ h
theorem zl5{rest:List Oper}(Kg:op.guard=none)(t e:TypeId)(x y:Operand)(ho:op.op= .buildSlice t 2 #[(0,x),(1,y)])(X Y:List Value)(hx:a.eval x= .agg X.toArray)(hy:a.eval y= .agg Y.toArray)
  (Hf:∀W,(Instr.buildSlice t 2 #[(0,.agg X.toArray),(1,.agg Y.toArray)]).run prog W= .ok (.slice (some ⟨W.heap.size,0,none⟩) 2 2) (W.alloc (.cells (X++Y).toArray e)))
  (h:wpList prog ops Q rest (a.put op.dst (.slice (some ⟨w.heap.size,0,none⟩) 2 2)) (w.alloc (.cells (X++Y).toArray e))):wpList prog ops Q (op::rest) a w:=by
 refine wpList_plain Kg λK hK=> ?_;unfold Oper.wp execOp;simp only[ho];simp[hx,hy,Hf];exact hK _ _ h
theorem zxi{y:Rc}(k:Blk W g 92 (cRc x++cRc y).toArray):zbz W (some ⟨g,0,none⟩) 2 [x,y]:=
 ⟨rfl,om,.inr ⟨g,0,rfl,k.lt,λi z hz=>by
  match i,hz with
  | 0,hz=>
   injection hz with hz;subst hz;have:=zaH k 0 12;exact this
  | 1,hz=>
   injection hz with hz;subst hz;have:=zaH k 12 12
   exact this⟩⟩
theorem zgi{b off n c:Nat}(h:zbz w (some ⟨b,off,none⟩) n (x::X))(hc:n<=c):zbz w (if c=1 then some ⟨b,off,none⟩ else some ⟨b,off+12,none⟩) (n - 1) X:=by
 have hl:X.length=n - 1:=by have:=h.1;simp at this;omega
 refine⟨hl,by have:=h.2.1;omega,?_⟩
 by_cases c1:c=1
 ·left
  have:=h.1;simp at this;omega
 ·rw[if_neg c1];rcases h.2.2 with h0 | ⟨b',dV,e,hb,hr⟩
  ·have:=h.1;simp at this;omega
  ·injection e with e;injection e with e1 e2;subst e1 e2;refine .inr ⟨b,off+12,rfl,hb,λi z hz=> ?_⟩;have:=hr (i+1) z (by simpa using hz);rw[Nat.add_mul,Nat.one_mul]at this;rw[show off+12+i*12=off+(i*12+12) by omega];exact this
theorem zxj(aF:Option Addr)(nF cF:Nat)(F:List Rc)(aO:Option Addr)(nO cO:Nat)(O:List Rc)(w:World)(rF:zbz w aF nF F)(rO:zbz w aO nO O)(mO:nF<=cF)(bg:cF<=maxLen)(mP:nO<=cO)(bh:cO<=maxLen)(hF:zdy F)(hO:zdy O)(hn:nF+nO<=2000):
  Calls prog 139 #[.slice aF nF cF,.slice aO nO cO] w λe w'=>∃v X,e= .returned v/\OwnX 12 cRc 92 w' w.heap.size v X/\X.length<=nF+nO/\zdy X/\(∀k,look k X=(look k F).or (look k O))/\Bw w w':=by
 obtain⟨i0,ku,kO,kP,kH⟩:=info_parts zcA;obtain⟨wm,jK,bi,YH⟩:=run_make_own (P:=prog) (w:=w) w.heap.size 85 92 i0 _ 12 underlying85 ku kO kP .i64 .i64 (nF+nO) (by rw[kH];omega) (by unfold maxLen;omega) (Nat.le_refl _);rw[show (((nF+nO:Nat)):Int)=(nF:Int)+(nO:Int) by omega]at jK;unfold maxLen at bg bh;have bj:Hid (OwnX 12 cRc 92 wm w.heap.size (.slice (some ⟨w.heap.size,0,none⟩) 0 (nF+nO)) ([]:List Rc)):=kA bi;have cu:Hid (Bw w wm):=kA ⟨YH.os,YH.tape,YH.output,YH.size,λq hq=>YH.block q hq (by simp)⟩;have H0:=kA (And.intro rF (And.intro rO (zl4 hF hO)));clear ku kO kP kH bi YH rF rO hF hO i0;go_enter func139,ntmps139;go_wp2
 go_loopw [0,1,5,6,7,8,9] (λv0 v1 v5 _ _ _ _ wr=>∃ (a1:Option Addr) (n1 c1:Nat) (F':List Rc) (a2:Option Addr) (n2 c2:Nat) (O' Z:List Rc),v0= .slice a1 n1 c1/\v1= .slice a2 n2 c2/\zbz w a1 n1 F'/\zbz w a2 n2 O'/\n1<=c1/\c1<=9223372036854775807/\n2<=c2/\c2<=9223372036854775807/\Z.length+n1+n2<=nF+nO/\OwnX 12 cRc 92 wr w.heap.size v5 Z/\MrgAt F O Z F' O'/\Bw w wr) (λv0 v1 _ _ _ _ _ _=>zhI v0+zhI v1)
 case atStart=>exact⟨aF,nF,cF,F,aO,nO,cO,O,[],rfl,rfl,H0.1,H0.2.1,mO,bg,mP,bh,by simp,bj.out,H0.2.2,cu⟩
 case round=>
  clear H0 bj cu jK;obtain⟨a1,n1,c1,F',a2,n2,c2,O',Z,rfl,rfl,r1,r2,Dd,xw,dx,xx,hl,ho,hm,hb⟩:=hrel;have De:=kA r1;have ki:=kA r2;have xP:=kA ho;have HM:=kA hm;have HB:=kA hb;clear r1 r2 ho hm hb;have jL:Hid (w.heap.size<=wr.heap.size):=kA HB.size
  have Kl:Hid ((n1=0∨n2=0)->∀v' X w',X=Z++F'++O'->OwnX 12 cRc 92 w' w.heap.size v' X->Bw w w'->∃v X,Ending.returned v'=Ending.returned v/\OwnX 12 cRc 92 w' w.heap.size v X/\X.length<=nF+nO/\zdy X/\(∀k,look k X=(look k F).or (look k O))/\Bw w w'):=kA (λh0 v' X w' e ho hb=>by
   have h1:F'=[]∨O'=[]:=h0.imp (λq=>eq_nil_of_length_eq_zero (De.1.trans q)) (λq=>eq_nil_of_length_eq_zero (ki.1.trans q));obtain⟨l1,l2⟩:=HM.last h1;rw[<-e]at l1 l2
   exact⟨v',X,rfl,ho,by rw[e,length_append,length_append,De.1,ki.1];omega,l1,l2,hb⟩)
  by_cases h1:0<n1
  ·by_cases h2:0<n2
   ·obtain⟨bf,of,f,rfl,hbf,zO,Qj⟩:=De.at_ h1;obtain⟨bo,oo,o,rfl,bk,Vs,yN⟩:=ki.at_ h2;obtain⟨F2,Yx⟩:∃F2,F'=f::F2:=by
     cases F' with
     | nil=>simp at zO
     | cons a b=>simp at zO;exact⟨b,by rw[zO]⟩
    obtain⟨O2,mQ⟩:∃O2,O'=o::O2:=by
     cases O' with
     | nil=>simp at Vs
     | cons a b=>simp at Vs;exact⟨b,by rw[Vs]⟩
    subst Yx mQ;rw[Nat.zero_mul,Nat.add_zero]at Qj yN;have HS:Hid (∀W,Bw wr W->W.rangeAt bf of (cRc f)/\W.rangeAt bo oo (cRc o)):=kA (λW hb=>⟨zaF Qj ((zad HB hb).block bf hbf),zaF yN ((zad HB hb).block bo bk)⟩);obtain⟨r,hr⟩:∃r,r=ze4 [f,o] 1:=⟨_,rfl⟩;have yO:(o.id<f.id/\r=o)∨(¬o.id<f.id/\r=f):=by
     by_cases c:o.id<f.id
     ·exact .inl ⟨c,by rw[hr];exact zkw (X:=[f,o]) (k:=0) (x:=o) rfl c⟩
     ·exact .inr ⟨c,by rw[hr];exact zkx (X:=[f,o]) (k:=0) (x:=o) rfl c⟩
    have yP:Hid ((znz r f=true/\(r.id==o.id)=true/\MrgAt F O (Z++[r]) F2 O2)∨(znz r f=true/\(r.id==o.id)=false/\MrgAt F O (Z++[r]) F2 (o::O2))∨(znz r f=false/\(r.id==o.id)=true/\MrgAt F O (Z++[r]) (f::F2) O2)):=kA (by
     rcases yO with ⟨c,e⟩ | ⟨c,e⟩
     ·rw[e];exact .inr (.inr ⟨zxf (λq=>by rw[q]at c;omega),by simp,HM.old c⟩)
     ·rw[e]
      by_cases c2:f.id=o.id
      ·exact .inl ⟨zhi f,by simpa using c2,HM.both c2⟩
      ·exact .inr (.inl ⟨zhi f,by simpa using c2,HM.fresh om⟩))
    have DT:Hid (∀h W,Blk W h 92 (cRc f++cRc o).toArray->Calls prog 218 #[.slice (some ⟨h,0,none⟩) 2 2] W λe w'=>e= .returned (.tuple #[.agg (cRc r).toArray,.bool true])/\Bw W w'):=kA (λh W k=>by
     rw[hr]
     exact zry (some ⟨h,0,none⟩) 2 2 [f,o] W (zxi k) om om)
    have Do:Hid (∀W,Calls prog 219 #[.agg (cRc r).toArray,.agg (cRc o).toArray] W λe w'=>e= .returned (.bool (r.id==o.id))/\Bw W w'):=kA (λW=>zd0 r o W);have HEq:Hid (∀w,(Op.equalIn 10000 92 (.agg (cRc r).toArray) (.agg (cRc f).toArray)).run prog w= .ok (znz r f) w):=kA (λw=>zAi r f w);have YI:Hid (∀W,(Instr.buildSlice 85 2 #[(0,.agg (cRc f).toArray),(1,.agg (cRc o).toArray)]).run prog W= .ok (.slice (some ⟨W.heap.size,0,none⟩) 2 2) (W.alloc (.cells (cRc f++cRc o).toArray 92))):=kA (zyV f o);have X5:Hid (∀W,(Instr.buildSlice 85 1 #[(0,.agg (cRc r).toArray)]).run prog W= .ok (.slice (some ⟨W.heap.size,0,none⟩) 1 1) (W.alloc (.cells (cRc r).toArray 92))):=kA (zrz r);have Ha:Hid (((prog.info? 92).map (·.size)=some (cRc f).length)/\((prog.info? 92).map (·.size)=some (cRc o).length)/\((prog.info? 92).map (·.size)=some (cRc r).length)):=kA ⟨zaK f,zaK o,zaK r⟩;have jM:Hid (c1=1->zbz w (some ⟨bf,of,none⟩) 0 F2):=kA (λd=>by have q:=zgi De Dd;rw[if_pos d,show n1 - 1=0 by omega]at q;exact q);have jN:Hid (¬c1=1->zbz w (some ⟨bf,of+12,none⟩) (n1 - 1) F2):=kA (λd=>by have q:=zgi De Dd;rw[if_neg d]at q;exact q);have ZV:Hid (c2=1->zbz w (some ⟨bo,oo,none⟩) 0 O2):=kA (λd=>by have q:=zgi ki dx;rw[if_pos d,show n2 - 1=0 by omega]at q;exact q);have ZW:Hid (¬c2=1->zbz w (some ⟨bo,oo+12,none⟩) (n2 - 1) O2):=kA (λd=>by have q:=zgi ki dx;rw[if_neg d]at q;exact q);obtain⟨XF,ZX⟩:∃XF,XF=cRc f:=⟨_,rfl⟩;obtain⟨XO,SP⟩:∃XO,XO=cRc o:=⟨_,rfl⟩;obtain⟨XR,yQ⟩:∃XR,XR=cRc r:=⟨_,rfl⟩;have kJ:Hid (XF.length=12/\XO.length=12/\XR.length=12/\XF.toArray.all (·.oneCell')=true/\XO.toArray.all (·.oneCell')=true/\XR.toArray.all (·.oneCell')=true):=kA (by rw[ZX,SP,yQ];exact⟨rfl,rfl,rfl,zbV _,zbV _,zbV _⟩);have mR:=kA yQ;rw[<-ZX]at HS DT HEq YI Ha;rw[<-SP]at HS DT Do YI Ha;rw[<-yQ]at DT Do HEq X5 Ha;obtain⟨er,jO⟩:∃er,er=znz r f:=⟨_,rfl⟩;obtain⟨sm,bm⟩:∃sm,sm=(r.id==o.id):=⟨_,rfl⟩;rw[<-jO]at yP HEq;rw[<-bm]at yP Do;have l1:(1:Int)<=(n1:Int):=om;have l2:(1:Int)<=(n2:Int):=om;have Gl:1<=n1:=h1;have Gm:1<=n2:=h2;clear ZX SP yQ jO bm Qj yN hr yO zO Vs hbf bk HM;go_upto_region 3 with fail;refine zyU (bf:=bf) (of:=of) (bo:=bo) (oo:=oo) (XF:=XF) (XO:=XO) (λ_ _ d _ _ h=>by cases d <;> exact h) h1 h2 kJ.1 kJ.2.1 kJ.2.2.2.1 kJ.2.2.2.2.1 HS ?_
    intro W g6 g7 k6 k7 EY l6 l7 hb;have K6:=kA k6;have K7:=kA k7;have jP:=kA (zad HB hb);have bn:=kA (xP.keep hb);have SQ:Hid (∀b,u5.ownBlock=some b->w.heap.size<=b/\b<wr.heap.size):=kA xP.lt;have bp:wr.heap.size<=W.heap.size:=hb.size;clear k6 k7 hb HS xP HB
    go_wp2_with (first
     | refine wpList_load_mid rfl 92 (.tmp 6) rfl g6 0 rfl XF _ (zac K6) underlying92 rfl Ha.1 ?_
     | refine wpList_load_mid rfl 92 (.tmp 7) rfl g7 0 rfl XO _ (zac K7) underlying92 rfl Ha.2.1 ?_
     | refine zl5 rfl 85 92 (.tmp 31) (.tmp 32) rfl XF XO rfl rfl YI ?_)
    refine (DT W.heap.size _ (Blk.new W _ _)).mono ?_;rintro e w3 ⟨rfl,hb⟩;have Hl:Bw W w3:=zad (zaa _ _) hb;have jQ:Hid (Blk w3 g6 92 XF.toArray/\Blk w3 g7 92 XO.toArray/\OwnX 12 cRc 92 w3 w.heap.size u5 Z/\Bw w w3):=kA ⟨K6.keep Hl,K7.keep Hl,bn.keep Hl,zad jP Hl⟩;have SR:wr.heap.size<=w3.heap.size:=Nat.le_trans bp Hl.size;clear hb Hl K6 K7 bn jP DT YI bp;have KN:=Blk.new w3 92 (cRc zRc).toArray;have kt:Hid ((w3.alloc (.cells (cRc zRc).toArray 92)).there w3.heap.size 0 XR.toArray.size):=kA (zae KN (by show 0+XR.length<=12;rw[kJ.2.2.1];exact Nat.le_refl 12));have Hn:Hid ((prog.info? 92).map (·.size)=some XR.toArray.size):=kA Ha.2.2
    have bq:Hid (Blk ((w3.alloc (.cells (cRc zRc).toArray 92)).setCells w3.heap.size 0 XR) g6 92 XF.toArray/\Blk ((w3.alloc (.cells (cRc zRc).toArray 92)).setCells w3.heap.size 0 XR) g7 92 XO.toArray/\Blk ((w3.alloc (.cells (cRc zRc).toArray 92)).setCells w3.heap.size 0 XR) w3.heap.size 92 XR.toArray/\OwnX 12 cRc 92 ((w3.alloc (.cells (cRc zRc).toArray 92)).setCells w3.heap.size 0 XR) w.heap.size u5 Z/\Bw w ((w3.alloc (.cells (cRc zRc).toArray 92)).setCells w3.heap.size 0 XR)):=kA (by
     obtain⟨q1,q2,q3,q4⟩:=jQ;have dd:Bw w3 ((w3.alloc (.cells (cRc zRc).toArray 92)).setCells w3.heap.size 0 XR):=zab XR (zaa _ _) (Nat.le_refl _);refine⟨q1.keep dd,q2.keep dd,?_,q3.keep dd,zad q4 dd⟩;have:=zaf XR (o:=0) KN (by rw[kJ.2.2.1];exact Nat.le_refl 12);rw[zan (by rw[kJ.2.2.1];rfl)]at this
     exact this)
    clear KN;go_upto_region 5 with (refine wpList_store_mid rfl 92 (.tmp 8) (.tmp 35) rfl w3.heap.size 0 XR.toArray rfl rfl kt Hn kJ.2.2.2.2.2 ?_);refine fin (λW=>Blk W g6 92 XF.toArray/\Blk W g7 92 XO.toArray/\Blk W w3.heap.size 92 XR.toArray/\OwnX 12 cRc 92 W w.heap.size u5 Z/\Bw w W) bq ?_;obtain⟨g8,yR⟩:∃g8,g8=w3.heap.size:=⟨_,rfl⟩;rw[<-yR]at SR ⊢;clear bq kt jQ yR;rintro W4 ⟨k6,k7,k8,ho,hb⟩;have K6:=kA k6;have K7:=kA k7;have K8:=kA k8;have SU:=kA ho;have Kh:=kA hb;clear k6 k7 k8 ho hb;have mS:Z.length<=2000:=om;have mT:Hid (w.heap.size<=W4.heap.size):=kA Kh.size
    go_wp2_with (first
     | refine wpList_load_mid rfl 92 (.tmp 8) rfl g8 0 rfl XR _ (zac K8) underlying92 rfl Ha.2.2 ?_
     | refine zew rfl 85 92 (.tmp 38) rfl XR rfl X5 ?_
     | (at_builtin;refine zbT rfl (.tmp 37) (.tmp 39) 85 96 (.agg (cRc zRc).toArray) rfl underlying85 zcA rfl (by decide) (by decide) zaz r (zcM r) rfl (SU.keep (zaa _ _)) W4.heap.size 1 rfl (by rw[<-mR.out];exact zac (Blk.new W4 _ _)) mS (Nat.le_trans mT (by simp)) ?_))
    intro v' W5 k1 k2 k3
    have kN:Hid (Blk W5 g6 92 XF.toArray/\Blk W5 g7 92 XO.toArray/\Blk W5 g8 92 XR.toArray/\OwnX 12 cRc 92 W5 w.heap.size v' (Z++[r])/\Bw w W5):=kA (by
     have Hl:Bw W4 (W4.alloc (.cells XR.toArray 92)):=zaa _ _;have q6:=K6.keep Hl;have q7:=K7.keep Hl;have q8:=K8.keep Hl;refine⟨q6.same (k2.block _ q6.lt (λe=> ?_)),q7.same (k2.block _ q7.lt (λe=> ?_)),q8.same (k2.block _ q8.lt (λe=> ?_)),k1,zaP (zad Kh Hl) k2 (λb e=>(SU.lt b e).1)⟩
     ·have:=(SQ _ e.symm).2;omega
     ·have:=(SQ _ e.symm).2;omega
     ·have:=(SQ _ e.symm).2;omega)
    clear k1 k2 k3 K6 K7 K8 SU Kh;have heq:=HEq.out;have br:(Z++[r]).length=Z.length+1:=by rw[length_append];rfl
    rcases yP.out with ⟨e1,e2,hM⟩ | ⟨e1,e2,hM⟩ | ⟨e1,e2,hM⟩
    ·have ck:=kA hM;rw[e1]at heq;rw[e2]at Do;clear hM yP e1 e2 HEq
     by_cases d1:c1=1
     ·have jR:=kA (jM d1);subst d1
      by_cases d2:c2=1
      ·have Xo:=kA (ZV d2);subst d2
       go_wp2_with (first
        | refine wpList_load_mid rfl 92 (.tmp 8) rfl g8 0 rfl XR _ (zac kN.2.2.1) underlying92 rfl Ha.2.2 ?_
        | refine wpList_load_mid rfl 92 (.tmp 6) rfl g6 0 rfl XF _ (zac kN.1) underlying92 rfl Ha.1 ?_
        | refine wpList_load_mid rfl 92 (.tmp 7) rfl g7 0 rfl XO _ (zac kN.2.1) underlying92 rfl Ha.2.1 ?_)
       refine (Do _).mono ?_;rintro e w6 ⟨rfl,hb⟩;have cQ:=kA (kN.2.2.2.1.keep hb);have dY:=kA (zad kN.2.2.2.2 hb);clear hb kN;go_wp2;go_roundw
       case rel=>exact⟨_,_,_,F2,_,_,_,O2,Z++[r],rfl,rfl,jR.out,Xo.out,om,om,om,om,om,cQ.out,ck.out,dY⟩
       case measure=>simp[zhI] <;> omega
      ·have Xo:=kA (ZW d2)
       skip
       go_wp2_with (first
        | refine wpList_load_mid rfl 92 (.tmp 8) rfl g8 0 rfl XR _ (zac kN.2.2.1) underlying92 rfl Ha.2.2 ?_
        | refine wpList_load_mid rfl 92 (.tmp 6) rfl g6 0 rfl XF _ (zac kN.1) underlying92 rfl Ha.1 ?_
        | refine wpList_load_mid rfl 92 (.tmp 7) rfl g7 0 rfl XO _ (zac kN.2.1) underlying92 rfl Ha.2.1 ?_)
       refine (Do _).mono ?_;rintro e w6 ⟨rfl,hb⟩;have cQ:=kA (kN.2.2.2.1.keep hb);have dY:=kA (zad kN.2.2.2.2 hb);clear hb kN;go_wp2;go_roundw
       case rel=>exact⟨_,_,_,F2,_,_,_,O2,Z++[r],rfl,rfl,jR.out,Xo.out,om,om,om,om,om,cQ.out,ck.out,dY⟩
       case measure=>simp[zhI] <;> omega
     ·have jR:=kA (jN d1)
      skip
      by_cases d2:c2=1
      ·have Xo:=kA (ZV d2);subst d2
       go_wp2_with (first
        | refine wpList_load_mid rfl 92 (.tmp 8) rfl g8 0 rfl XR _ (zac kN.2.2.1) underlying92 rfl Ha.2.2 ?_
        | refine wpList_load_mid rfl 92 (.tmp 6) rfl g6 0 rfl XF _ (zac kN.1) underlying92 rfl Ha.1 ?_
        | refine wpList_load_mid rfl 92 (.tmp 7) rfl g7 0 rfl XO _ (zac kN.2.1) underlying92 rfl Ha.2.1 ?_)
       refine (Do _).mono ?_;rintro e w6 ⟨rfl,hb⟩;have cQ:=kA (kN.2.2.2.1.keep hb);have dY:=kA (zad kN.2.2.2.2 hb);clear hb kN;go_wp2;go_roundw
       case rel=>exact⟨_,_,_,F2,_,_,_,O2,Z++[r],rfl,rfl,jR.out,Xo.out,om,om,om,om,om,cQ.out,ck.out,dY⟩
       case measure=>simp[zhI] <;> omega
      ·have Xo:=kA (ZW d2)
       skip
       go_wp2_with (first
        | refine wpList_load_mid rfl 92 (.tmp 8) rfl g8 0 rfl XR _ (zac kN.2.2.1) underlying92 rfl Ha.2.2 ?_
        | refine wpList_load_mid rfl 92 (.tmp 6) rfl g6 0 rfl XF _ (zac kN.1) underlying92 rfl Ha.1 ?_
        | refine wpList_load_mid rfl 92 (.tmp 7) rfl g7 0 rfl XO _ (zac kN.2.1) underlying92 rfl Ha.2.1 ?_)
       refine (Do _).mono ?_;rintro e w6 ⟨rfl,hb⟩;have cQ:=kA (kN.2.2.2.1.keep hb);have dY:=kA (zad kN.2.2.2.2 hb);clear hb kN;go_wp2;go_roundw
       case rel=>exact⟨_,_,_,F2,_,_,_,O2,Z++[r],rfl,rfl,jR.out,Xo.out,om,om,om,om,om,cQ.out,ck.out,dY⟩
       case measure=>simp[zhI] <;> omega
    ·have ck:=kA hM;rw[e1]at heq;rw[e2]at Do;clear hM yP e1 e2 HEq
     by_cases d1:c1=1
     ·have hT:=kA (jM d1);subst d1
      go_wp2_with (first
       | refine wpList_load_mid rfl 92 (.tmp 8) rfl g8 0 rfl XR _ (zac kN.2.2.1) underlying92 rfl Ha.2.2 ?_
       | refine wpList_load_mid rfl 92 (.tmp 6) rfl g6 0 rfl XF _ (zac kN.1) underlying92 rfl Ha.1 ?_
       | refine wpList_load_mid rfl 92 (.tmp 7) rfl g7 0 rfl XO _ (zac kN.2.1) underlying92 rfl Ha.2.1 ?_)
      refine (Do _).mono ?_;rintro e w6 ⟨rfl,hb⟩;have cQ:=kA (kN.2.2.2.1.keep hb);have dY:=kA (zad kN.2.2.2.2 hb);clear hb kN;go_wp2;go_roundw
      case rel=>exact⟨_,_,_,F2,_,_,_,o::O2,Z++[r],rfl,rfl,hT.out,ki.out,om,om,om,om,om,cQ.out,ck.out,dY⟩
      case measure=>simp[zhI] <;> omega
     ·have hT:=kA (jN d1)
      skip
      go_wp2_with (first
       | refine wpList_load_mid rfl 92 (.tmp 8) rfl g8 0 rfl XR _ (zac kN.2.2.1) underlying92 rfl Ha.2.2 ?_
       | refine wpList_load_mid rfl 92 (.tmp 6) rfl g6 0 rfl XF _ (zac kN.1) underlying92 rfl Ha.1 ?_
       | refine wpList_load_mid rfl 92 (.tmp 7) rfl g7 0 rfl XO _ (zac kN.2.1) underlying92 rfl Ha.2.1 ?_)
      refine (Do _).mono ?_;rintro e w6 ⟨rfl,hb⟩;have cQ:=kA (kN.2.2.2.1.keep hb);have dY:=kA (zad kN.2.2.2.2 hb);clear hb kN;go_wp2;go_roundw
      case rel=>exact⟨_,_,_,F2,_,_,_,o::O2,Z++[r],rfl,rfl,hT.out,ki.out,om,om,om,om,om,cQ.out,ck.out,dY⟩
      case measure=>simp[zhI] <;> omega
    ·have ck:=kA hM;rw[e1]at heq;rw[e2]at Do;clear hM yP e1 e2 HEq
     by_cases d2:c2=1
     ·have hT:=kA (ZV d2);subst d2
      go_wp2_with (first
       | refine wpList_load_mid rfl 92 (.tmp 8) rfl g8 0 rfl XR _ (zac kN.2.2.1) underlying92 rfl Ha.2.2 ?_
       | refine wpList_load_mid rfl 92 (.tmp 6) rfl g6 0 rfl XF _ (zac kN.1) underlying92 rfl Ha.1 ?_
       | refine wpList_load_mid rfl 92 (.tmp 7) rfl g7 0 rfl XO _ (zac kN.2.1) underlying92 rfl Ha.2.1 ?_)
      refine (Do _).mono ?_;rintro e w6 ⟨rfl,hb⟩;have cQ:=kA (kN.2.2.2.1.keep hb);have dY:=kA (zad kN.2.2.2.2 hb);clear hb kN;go_wp2;go_roundw
      case rel=>exact⟨_,_,_,f::F2,_,_,_,O2,Z++[r],rfl,rfl,De.out,hT.out,om,om,om,om,om,cQ.out,ck.out,dY⟩
      case measure=>simp[zhI] <;> omega
     ·have hT:=kA (ZW d2)
      skip
      go_wp2_with (first
       | refine wpList_load_mid rfl 92 (.tmp 8) rfl g8 0 rfl XR _ (zac kN.2.2.1) underlying92 rfl Ha.2.2 ?_
       | refine wpList_load_mid rfl 92 (.tmp 6) rfl g6 0 rfl XF _ (zac kN.1) underlying92 rfl Ha.1 ?_
       | refine wpList_load_mid rfl 92 (.tmp 7) rfl g7 0 rfl XO _ (zac kN.2.1) underlying92 rfl Ha.2.1 ?_)
      refine (Do _).mono ?_;rintro e w6 ⟨rfl,hb⟩;have cQ:=kA (kN.2.2.2.1.keep hb);have dY:=kA (zad kN.2.2.2.2 hb);clear hb kN;go_wp2;go_roundw
      case rel=>exact⟨_,_,_,f::F2,_,_,_,O2,Z++[r],rfl,rfl,De.out,hT.out,om,om,om,om,om,cQ.out,ck.out,dY⟩
      case measure=>simp[zhI] <;> omega
   ·skip
    have ZY:=kA (De.keep HB);have SV:=kA (ki.keep HB);have zK:Z.length+n1<=4000000:=om
    go_wp2_with (first
     | (at_builtin;refine zbK rfl (.tmp 51) (.tmp 52) 85 96 (.agg (cRc zRc).toArray) rfl underlying85 zcA rfl (by decide) (by decide) zaz zcM rfl xP a1 n1 c1 rfl ZY zK jL ?_))
    intro v' W2 k1 k2 k3;have SY:(Z++F').length+n2<=4000000:=by rw[length_append,De.1];omega
    have Hm:Hid (Bw w W2):=kA (zaP HB k2 (λb e=>(xP.lt b e).1));have jS:=kA k1;have Z0:=kA (ki.keep Hm);have XI:Hid (w.heap.size<=W2.heap.size):=kA Hm.size;clear k1 k2 k3
    go_wp2_with (first
     | (at_builtin;refine zbK rfl (.tmp 53) (.tmp 54) 85 96 (.agg (cRc zRc).toArray) rfl underlying85 zcA rfl (by decide) (by decide) zaz zcM rfl jS a2 n2 c2 rfl Z0 SY XI ?_))
    intro v2 W3 k1 k2 k3;have dq:Hid (Bw w W3):=kA (zaP Hm k2 (λb e=>(jS.lt b e).1));have jT:=kA k1;clear k1 k2 k3;go_wp2;go_ret;exact Kl om _ _ _ (by simp only[append_assoc]) jT dq
  ·skip
   have ZY:=kA (De.keep HB);have SV:=kA (ki.keep HB);have zK:Z.length+n1<=4000000:=om
   go_wp2_with (first
    | (at_builtin;refine zbK rfl (.tmp 51) (.tmp 52) 85 96 (.agg (cRc zRc).toArray) rfl underlying85 zcA rfl (by decide) (by decide) zaz zcM rfl xP a1 n1 c1 rfl ZY zK jL ?_))
   intro v' W2 k1 k2 k3;have SY:(Z++F').length+n2<=4000000:=by rw[length_append,De.1];omega
   have Hm:Hid (Bw w W2):=kA (zaP HB k2 (λb e=>(xP.lt b e).1));have jS:=kA k1;have Z0:=kA (ki.keep Hm);have XI:Hid (w.heap.size<=W2.heap.size):=kA Hm.size;clear k1 k2 k3
   go_wp2_with (first
    | (at_builtin;refine zbK rfl (.tmp 53) (.tmp 54) 85 96 (.agg (cRc zRc).toArray) rfl underlying85 zcA rfl (by decide) (by decide) zaz zcM rfl jS a2 n2 c2 rfl Z0 SY XI ?_))
   intro v2 W3 k1 k2 k3;have dq:Hid (Bw w W3):=kA (zaP Hm k2 (λb e=>(jS.lt b e).1));have jT:=kA k1;clear k1 k2 k3;go_wp2;go_ret;exact Kl om _ _ _ (by simp only[append_assoc]) jT dq
def zvC(w w':World)(nF nO:Nat)(v:Value)(L X R:List Rc):Prop:=OwnX 12 cRc 92 w' w.heap.size v R/\R.length<=nF+nO/\zdy R/\∀k,look k R=(look k X.reverse).or (look k L)
def zhy(X:List Rc)(zs:List Int):List Rc:=X.filter (λr=> !decide (r.id∈zs))
theorem zrA(w:World):(zeroValue 220).run prog w= .ok (.agg #[]) w:=oM
def kU:MK Unit:=mkA 199 220 (λ_=> .agg #[]) underlying199 zrA (λ_=>⟨[],rfl,λu h=>by cases h⟩)
def inU(l:List Int)(y:Int):Option Unit:=if y∈l then some () else none
theorem znB(l:List Int)(y:Int):(inU l y).isSome=decide (y∈l):=by
 unfold inU
 by_cases h:y∈l <;> simp[h]
theorem zxk(l:List Int)(x:Int):upm (inU l) x (some ())=inU (l++[x]):=funext λy=>by
 unfold upm inU
 by_cases e:y=x
 ·rw[if_pos e,if_pos (mem_append.2 (.inr (by rw[e];exact mem_singleton_self _)))]
 ·rw[if_neg e]
  by_cases m:y∈l
  ·rw[if_pos m,if_pos (mem_append.2 (.inl m))]
  ·rw[if_neg m,if_neg (λh=>by rcases mem_append.1 h with h | h;exact m h;exact e (mem_singleton.1 h))]
theorem zt6{zs:List Int}{j:Nat}(h:X[j]? =some x):zhy (X.take (j+1)) zs=zhy (X.take j) zs++(if x.id∈zs then [] else [x]):=by
 unfold zhy;rw[take_add_one,h,filter_append]
 by_cases q:x.id∈zs <;> simp[q]
theorem zoM(av:Option Addr)(n cap:Nat)(X:List Rc)(ai:Option Addr)(ni ci:Nat)(zs:List Int)(w:World)(row:zbz w av n X)(ri:Row w ai ni zs)(hn:n<=2000)(EZ:ni<=2000)(hX:∀x∈X,Rg x.id)(hz:Rgs zs):
  Calls prog 77 #[.slice av n cap,.slice ai ni ci] w λe w'=>∃v,e= .returned v/\OwnX 12 cRc 92 w' w.heap.size v (zhy X zs)/\Bw w w':=by
 have Xh:= @run_makeMap prog;have Hy:=ri.2.1;have bu:=row.2.1;have X6:=kA ri.1;have kJ:=kA row.1;have DD:=kA ri;have hJ:=kA row;have cC:=kA (And.intro hX hz);have Cn:Hid (MF kU (w.alloc (.map #[] 0)) w.heap.size (inU [])/\Bw w (w.alloc (.map #[] 0))):=kA ⟨MF.new kU w,zaa _ _⟩;have Xn:Hid (zs.take ni=zs):=kA (take_of_length_le (by rw[X6.out];exact Nat.le_refl _));clear row ri hX hz;go_enter func77,ntmps77;go_wp2
 go_loopw [7,16] (λ_ Te wr=>∃j:Nat,Te= .int .i64 j/\j<=ni/\MF kU wr w.heap.size (inU (zs.take j))/\Bw w wr) (λ_ Te _=>ni - (ivl Te).toNat)
 case atStart=>exact⟨0,rfl,om,Cn.1,Cn.2⟩
 case round=>
  clear Cn;obtain⟨j,rfl,hj,hm,hb⟩:=hrel;have HM:=kA hm;have HB:=kA hb;clear hm hb
  by_cases hlt:j<ni
  ·have br:=X6.out;rcases (zar DD HB).2.2 with h0 | ⟨b,off,ha,hcell⟩
   ·omega
   have cx:wr.cell? ⟨b,off+j,none⟩=some (.int .i64 (zs.getD j 0)):=hcell j hlt;have CQ:zs[j]? =some (zs.getD j 0):=by rw[getElem?_eq_getElem om,getD,getElem?_eq_getElem om];rfl
   obtain⟨x,hx⟩:∃x,x=zs.getD j 0:=⟨_,rfl⟩;rw[<-hx]at cx CQ;have de:Rg x:=cC.2 x (mem_of_getElem? CQ);have zP:upm (inU (zs.take j)) x (some ())=inU (zs.take (j+1)):=by rw[zxk,take_add_one,CQ];rfl
   obtain⟨w2,Hf,xx,Ko⟩:=HM.put de () (zs.take (j+1)) (λy hy=>by
    rw[zP,znB]at hy
    exact of_decide_eq_true hy) (by rw[length_take];omega)
   have ck:Hid (MF kU w2 w.heap.size (inU (zs.take (j+1)))/\Bw w w2):=kA ⟨zP ▸ xx,zaP HB.out Ko (λb e=>by injection e with e;omega)⟩;have zQ:(Instr.mapUpdate 199 (.map (some w.heap.size)) (.int .i64 x) (.agg #[])).run prog wr= .ok () w2:=Hf;have j0:(0:Int)<=(j:Int):=om;have j1:(j:Int)<(ni:Int):=om;subst ha;clear hx CQ de zP Hf xx Ko hcell br HM HB;go_wp2;go_roundw
   case rel=>exact⟨j+1,by go_num,om,ck.1,ck.2⟩
   case measure=>simp[ivl] <;> omega
  ·obtain rfl:j=ni:=om;have j1:¬(j:Int)<(j:Int):=om;have bw:Hid (MF kU wr w.heap.size (inU zs)):=kA (Xn.out ▸ HM.out);have YJ:w.heap.size<wr.heap.size:=HM.out.lt;clear HM;go_wp2
   go_loopw [8,10,11,12,26] (λv8 _ _ _ v26 wr=>∃k:Nat,v26= .int .i64 k/\k<=n/\OwnX 12 cRc 92 wr (w.heap.size+1) v8 (zhy (X.take k) zs)/\MF kU wr w.heap.size (inU zs)/\Bw w wr) (λ_ _ _ _ v26 _=>n - (ivl v26).toNat)
   case atStart=>exact⟨0,rfl,om,OwnX.nil _ _ _ _ _,bw.out,HB⟩
   case round=>
    clear bw HB YJ;obtain⟨k,rfl,hk,ho,hm,hb⟩:=hrel;have HO:=kA ho;have HM:=kA hm;have HB:=kA hb;have YJ:w.heap.size<wr.heap.size:=hm.lt;clear ho hm hb
    by_cases D7:k<n
    ·obtain⟨b,off,x,rfl,Ho,hx,hr⟩:=hJ.at_ D7;have de:Rg x.id:=cC.1 x (mem_of_getElem? hx);have Kb:=kA (zt6 (zs:=zs) hx);have D8:Hid (wr.rangeAt b (off+k*12) (cRc x)):=kA (zaF hr (HB.block b Ho));have KN:=Blk.new wr 92 (cRc zRc).toArray
     have Cx:Hid (Blk ((wr.alloc (.cells (cRc zRc).toArray 92)).setCells wr.heap.size 0 (cRc x)) wr.heap.size 92 (cRc x).toArray/\OwnX 12 cRc 92 ((wr.alloc (.cells (cRc zRc).toArray 92)).setCells wr.heap.size 0 (cRc x)) (w.heap.size+1) u8 (zhy (X.take k) zs)/\MF kU ((wr.alloc (.cells (cRc zRc).toArray 92)).setCells wr.heap.size 0 (cRc x)) w.heap.size (inU zs)/\Bw w ((wr.alloc (.cells (cRc zRc).toArray 92)).setCells wr.heap.size 0 (cRc x))):=kA (by
      have dd:Bw wr ((wr.alloc (.cells (cRc zRc).toArray 92)).setCells wr.heap.size 0 (cRc x)):=zab _ (zaa _ _) (Nat.le_refl _);refine⟨?_,HO.keep dd,HM.keep dd,zad HB dd⟩;have:=zaf (cRc x) (o:=0) KN (Nat.le_refl 12);rw[zb5]at this
      exact this)
     have X7:Hid ((wr.alloc (.cells (cRc zRc).toArray 92)).there wr.heap.size 0 12):=kA (zae KN (Nat.le_refl 12));have Ha:=kA (zaK x);have xP:=kA (zbV x);have X5:Hid (∀W,(Instr.buildSlice 85 1 #[(0,.agg (cRc x).toArray)]).run prog W= .ok (.slice (some ⟨W.heap.size,0,none⟩) 1 1) (W.alloc (.cells (cRc x).toArray 92))):=kA (zrz x);have YK:Hid (∀W g,Blk W g 92 (cRc x).toArray->W.cell? ⟨g,0,none⟩=some (.int .i64 x.id)):=kA (λW g q=>q.cell 0);obtain⟨XX,cB⟩:∃XX,XX=cRc x:=⟨_,rfl⟩;have Q6:=kA cB;have xj:Hid (XX.length=12):=kA (by rw[cB];rfl);rw[<-cB]at D8 Cx Ha xP X5 YK;obtain⟨y,hy⟩:∃y,y=x.id:=⟨_,rfl⟩;rw[<-hy]at YK Kb de;have Hn:Hid ((prog.info? 92).map (·.size)=some XX.toArray.size):=Ha;have kt:Hid ((wr.alloc (.cells (cRc zRc).toArray 92)).there wr.heap.size 0 XX.toArray.size):=kA (by show World.there _ _ 0 XX.length;rw[xj.out];exact X7);have j0:(0:Int)<=(k:Int):=om;have j1:(k:Int)<(n:Int):=om;have SZ:=kA de;clear KN X7 cB hy hx hr Ho de HO HM HB
     go_upto_region 11 with (first
      | refine wpList_load_mid rfl 92 (.tmp 28) rfl b (off+k*12) rfl XX _ D8 underlying92 rfl Ha ?_
      | refine wpList_store_mid rfl 92 (.tmp 10) (.tmp 29) rfl wr.heap.size 0 XX.toArray rfl rfl kt Hn xP ?_)
     refine fin (λW=>Blk W wr.heap.size 92 XX.toArray/\OwnX 12 cRc 92 W (w.heap.size+1) u8 (zhy (X.take k) zs)/\MF kU W w.heap.size (inU zs)/\Bw w W) Cx ?_;obtain⟨g10,hg⟩:∃g10,g10=wr.heap.size:=⟨_,rfl⟩;rw[<-hg]at YJ ⊢;clear Cx kt D8 hg;rintro W ⟨kx,ho,hm,hb⟩;have hcell:W.cell? ⟨g10,0,none⟩=some (.int .i64 y):=YK.out _ _ kx;have zR:(Instr.lookup 199 (.map (some w.heap.size)) (.int .i64 y) true).run prog W= .ok (.tuple #[.agg #[],.bool (decide (y∈zs))]) W:=by
      have:=hm.look SZ;rw[znB]at this;exact this
     have HK:Hid (∀W',Bw W W'->Blk W' g10 92 XX.toArray/\OwnX 12 cRc 92 W' (w.heap.size+1) u8 (zhy (X.take k) zs)/\MF kU W' w.heap.size (inU zs)/\Bw w W'):=kA (λW' q=>⟨kx.keep q,ho.keep q,hm.keep q,zad hb q⟩);have DI:=kx.lt;clear kx ho hm hb;obtain⟨bb,Kt⟩:∃bb,bb=decide (y∈zs):=⟨_,rfl⟩;rw[<-Kt]at zR;have Dp:=kA Kt;clear Kt;go_upto_region 12 with fail;refine fin (λW'=>Blk W' g10 92 XX.toArray/\OwnX 12 cRc 92 W' (w.heap.size+1) u8 (zhy (X.take k) zs)/\MF kU W' w.heap.size (inU zs)/\Bw w W') (HK _ (zaa _ _)) ?_;clear HK zR hcell DI;rintro W2 ⟨kx,ho,hm,hb⟩;have KX:=kA kx;have HO:=kA ho;have HM:=kA hm;have HB:=kA hb;have S0:w.heap.size+1<=W2.heap.size:=hm.lt;clear kx ho hm hb
     cases bb
     ·have Hd:¬y∈zs:=of_decide_eq_false Dp.symm;rw[if_neg Hd]at Kb;have zG:(zhy (X.take k) zs).length<=2000:=by
       have q1:=length_filter_le (λr:Rc=> !decide (r.id∈zs)) (X.take k);rw[length_take]at q1;unfold zhy;omega
      clear Dp Hd
      go_wp2_with (first
       | refine wpList_load_mid rfl 92 (.tmp 10) rfl g10 0 rfl XX _ (zac KX) underlying92 rfl Ha ?_
       | refine zew rfl 85 92 (.tmp 40) rfl XX rfl X5 ?_
       | (at_builtin;refine zbT rfl (.tmp 39) (.tmp 41) 85 96 (.agg (cRc zRc).toArray) rfl underlying85 zcA rfl (by decide) (by decide) zaz x (zcM x) rfl (HO.keep (zaa _ _)) W2.heap.size 1 rfl (by rw[<-Q6.out];exact zac (Blk.new W2 _ _)) zG (Nat.le_trans S0 (by simp)) ?_))
      intro v' W3 k1 k2 k3
      have K:Hid (OwnX 12 cRc 92 W3 (w.heap.size+1) v' (zhy (X.take (k+1)) zs)/\MF kU W3 w.heap.size (inU zs)/\Bw w W3):=kA (by
       have Hl:Bw W2 (W2.alloc (.cells XX.toArray 92)):=zaa _ _;have q:=HM.keep Hl
       exact⟨by rw[Kb.out];exact k1,q.same (k2.block _ q.lt (λe=>by have:=(HO.lt _ e.symm).1;omega)),zaP (zad HB Hl) k2 (λb e=>by have:=(HO.lt b e).1;omega)⟩)
      clear k1 k2 k3 HO HM HB KX;go_wp2;go_roundw
      case rel=>exact⟨k+1,by go_num,om,K.1,K.2.1,K.2.2⟩
      case measure=>simp[ivl] <;> omega
     ·have hin:y∈zs:=of_decide_eq_true Dp.symm;rw[if_pos hin,append_nil]at Kb;clear Dp hin;go_wp2;go_roundw
      case rel=>exact⟨k+1,by go_num,om,by rw[Kb.out];exact HO.out,HM.out,HB⟩
      case measure=>simp[ivl] <;> omega
    ·obtain rfl:k=n:=om;have j2:¬(k:Int)<(k:Int):=om
     have Co:Hid (OwnX 12 cRc 92 wr w.heap.size u8 (zhy X zs)):=kA (by
      have q:=HO.out;rw[take_of_length_le (by rw[kJ.out];exact Nat.le_refl _)]at q
      exact q.low om)
     go_wp2;go_ret;exact⟨u8,rfl,Co.out,HB⟩
section
variable {α:Type} {k:Nat} {c:α->List Value} {t:TypeId} {w w':World} {base:Nat} {v:Value} {X:List α}
theorem zky{rest:List Oper}(Kg:op.guard=none)(ts tb:Operand)(tl:TypeId)(by_:Nat)(z:Value)
  (ho:op.op= .call { callee:= .builtin .append,args:= #[ts,tb],argTypes:= #[tl,tl] })(hu:prog.underlying tl=some (.slice t))
  (dn:(prog.info? t).map (λi=>(i.zero,i.size,i.bytes))=some (some z,k,by_))(dW:z.cells.size=k)(hk:0<k)(hc:∀x,(c x).length=k)(x:α)(XJ:∀u∈c x,u.oneCell'=true)
  (hs:a.eval ts=v)(Hc:OwnX k c t w base v X)(gb:Nat)(cap:Nat)(hx:a.eval tb= .slice (some ⟨gb,0,none⟩) 1 cap)(hb:w.rangeAt gb 0 (c x))(Dh:(X.length+1)*by_<=140737488355328)(hX:X.length+1<=maxLen)(kj:base<=w.heap.size)
  (h:∀v' w',OwnX k c t w' base v' (X++[x])->w.grownBy w' v.ownBlock->(v'.ownBlock=v.ownBlock∨v'.ownBlock=some w.heap.size)->wpList prog ops Q rest (a.put op.dst v') w'):wpList prog ops Q (op::rest) a w:=by
 obtain⟨i0,ku,kO,kP,kH⟩:=info_parts dn
 refine wpList_append_own_at w Kg ts tb tl ho base t i0 z k by_ hu ku kO kP kH dW hk v X.length (X.flatMap c) hs Hc ⟨gb,0,none⟩ 1 cap (c x) hx (by rw[hc x,Nat.one_mul]) (λj u hj=>by
  have:=hb j u hj;rw[Addr.add_lit]
  exact this) XJ hX Dh kj ?_
 intro v' w' h1 h2 _ h4;refine h v' w' ?_ h2 h4;unfold OwnX;rw[length_append,flatMap_append];simpa using h1
end
theorem zyW(x:Rc)(W:World):(Instr.buildSlice 39 1 #[(0,.agg (cRc x).toArray)]).run prog W= .ok (.slice (some ⟨W.heap.size,0,none⟩) 1 1) (W.alloc (.cells (cRc x).toArray 128)):=oM
theorem zxl(x:Rc):(prog.info? 128).map (·.size)=some (cRc x).length:=by
 rw[zaz];kernel_rfl
theorem zt7{t:TypeId}(k:Blk W g t (cRc x).toArray):
  W.cell? ⟨g,0,none⟩=some (.int .i64 x.id)/\W.cell? ⟨g,1,none⟩=some (.int .i64 x.ms)/\W.cell? ⟨g,2,none⟩=some (.int .i64 x.pp)/\W.cell? ⟨g,3,none⟩=some (.int .i64 x.mt)/\W.cell? ⟨g,4,none⟩=some (.bool x.cl)/\W.cell? ⟨g,5,none⟩=some (.int .i64 x.ly)/\
  W.cell? ⟨g,6,none⟩=some (.int .i64 x.x0)/\W.cell? ⟨g,7,none⟩=some (.int .i64 x.x1)/\W.cell? ⟨g,8,none⟩=some (.int .i64 x.x2)/\W.cell? ⟨g,9,none⟩=some (.int .i64 x.x3)/\W.cell? ⟨g,10,none⟩=some (.int .i64 x.x4)/\W.cell? ⟨g,11,none⟩=some (.int .i64 x.x5):=
 ⟨k.cell 0,k.cell 1,k.cell 2,k.cell 3,k.cell 4,k.cell 5,k.cell 6,k.cell 7,k.cell 8,k.cell 9,k.cell 10,k.cell 11⟩
theorem zxm(av:Option Addr)(n cap:Nat)(X:List Rc)(w:World)(row:zbz w av n X)(hn:n*96<=140737488355328):
  Calls prog 23 #[.slice av n cap] w λe w'=>∃v,e= .returned v/\OwnX 12 cRc 128 w' w.heap.size v X/\Bw w w':=by
 have Hy:=row.2.1;have kJ:=kA row.1;have hJ:=kA row;clear row;go_enter func23,ntmps23;go_wp2
 go_loopw [3,4,5] (λv3 v4 _ wr=>∃j:Nat,v4= .int .i64 j/\j<=n/\OwnX 12 cRc 128 wr w.heap.size v3 (X.take j)/\Bw w wr) (λ_ v4 _ _=>n - (ivl v4).toNat)
 case atStart=>exact⟨0,rfl,om,OwnX.nil _ _ _ _ _,Below.refl _ _⟩
 case round=>
  obtain⟨j,rfl,hj,ho,hb⟩:=hrel;have HO:=kA ho;have HB:=kA hb;clear ho hb
  by_cases hlt:j<n
  ·obtain⟨b,off,x,rfl,Ho,hx,hr⟩:=hJ.at_ hlt;have xQ:Hid (X.take (j+1)=X.take j++[x]):=kA (by rw[take_add_one,hx];rfl);have zG:(X.take j).length=j:=by rw[length_take,kJ.out];omega
   have zS:Hid (((X.take j).length+1)*96<=140737488355328/\(X.take j).length+1<=maxLen):=kA (by rw[zG];unfold maxLen;omega);have D8:Hid (wr.rangeAt b (off+j*12) (cRc x)):=kA (zaF hr (HB.block b Ho));have KN:=Blk.new wr 92 (cRc zRc).toArray
   have Cx:Hid (Blk ((wr.alloc (.cells (cRc zRc).toArray 92)).setCells wr.heap.size 0 (cRc x)) wr.heap.size 92 (cRc x).toArray/\OwnX 12 cRc 128 ((wr.alloc (.cells (cRc zRc).toArray 92)).setCells wr.heap.size 0 (cRc x)) w.heap.size u3 (X.take j)/\Bw w ((wr.alloc (.cells (cRc zRc).toArray 92)).setCells wr.heap.size 0 (cRc x))):=kA (by
    have dd:Bw wr ((wr.alloc (.cells (cRc zRc).toArray 92)).setCells wr.heap.size 0 (cRc x)):=zab _ (zaa _ _) (Nat.le_refl _);refine⟨?_,HO.keep dd,zad HB dd⟩;have:=zaf (cRc x) (o:=0) KN (Nat.le_refl 12);rw[zb5]at this
    exact this)
   have X7:Hid ((wr.alloc (.cells (cRc zRc).toArray 92)).there wr.heap.size 0 12):=kA (zae KN (Nat.le_refl 12));have Ha:=kA (zaK x);have xP:=kA (zbV x)
   have zU:Hid (∀W g,Blk W g 92 (cRc x).toArray->W.cell? ⟨g,0,none⟩=some (.int .i64 x.id)/\W.cell? ⟨g,1,none⟩=some (.int .i64 x.ms)/\W.cell? ⟨g,2,none⟩=some (.int .i64 x.pp)/\W.cell? ⟨g,3,none⟩=some (.int .i64 x.mt)/\W.cell? ⟨g,4,none⟩=some (.bool x.cl)/\W.cell? ⟨g,5,none⟩=some (.int .i64 x.ly)/\
  W.cell? ⟨g,6,none⟩=some (.int .i64 x.x0)/\W.cell? ⟨g,7,none⟩=some (.int .i64 x.x1)/\W.cell? ⟨g,8,none⟩=some (.int .i64 x.x2)/\W.cell? ⟨g,9,none⟩=some (.int .i64 x.x3)/\W.cell? ⟨g,10,none⟩=some (.int .i64 x.x4)/\W.cell? ⟨g,11,none⟩=some (.int .i64 x.x5)):=kA (λW g k=>zt7 k)
   obtain⟨XX,cB⟩:∃XX,XX=cRc x:=⟨_,rfl⟩;have xj:Hid (XX.length=12):=kA (by rw[cB];rfl);rw[<-cB]at D8 Cx Ha xP zU;have Hn:Hid ((prog.info? 92).map (·.size)=some XX.toArray.size):=Ha;have kt:Hid ((wr.alloc (.cells (cRc zRc).toArray 92)).there wr.heap.size 0 XX.toArray.size):=kA (by show World.there _ _ 0 XX.length;rw[xj.out];exact X7);have j0:(0:Int)<=(j:Int):=om;have j1:(j:Int)<(n:Int):=om;clear KN X7 cB hx hr Ho HO HB
   go_upto_region 6 with (first
    | refine wpList_load_mid rfl 92 (.tmp 14) rfl b (off+j*12) rfl XX _ D8 underlying92 rfl Ha ?_
    | refine wpList_store_mid rfl 92 (.tmp 5) (.tmp 15) rfl wr.heap.size 0 XX.toArray rfl rfl kt Hn xP ?_)
   refine fin (λW=>Blk W wr.heap.size 92 XX.toArray/\OwnX 12 cRc 128 W w.heap.size u3 (X.take j)/\Bw w W) Cx ?_;obtain⟨g5,hg⟩:∃g5,g5=wr.heap.size:=⟨_,rfl⟩;rw[<-hg];clear Cx kt D8 hg;rintro W ⟨kx,ho,hb⟩;obtain⟨c0,c1,c2,c3,c4,c5,c6,c7,c8,c9,c10,c11⟩:=zU.out _ _ kx;have HO:=kA ho;have HB:=kA hb;have kj:=zyW x;unfold cRc at kj;have DI:=kx.lt;have YJ:Hid (w.heap.size<=W.heap.size):=kA hb.size;clear kx ho hb zU;go_wp2_with (at_builtin;refine zky rfl (.tmp 16) (.tmp 32) 39 96 (.agg (cRc zRc).toArray) rfl underlying39 zt3 rfl (by decide) zaz x (zcM x) rfl (HO.keep (zaa _ _)) W.heap.size 1 rfl (zac (X:=cRc x) (Blk.new W _ _)) zS.1 zS.2 (Nat.le_trans YJ (by simp)) ?_);intro v' W3 k1 k2 k3;have K:Hid (OwnX 12 cRc 128 W3 w.heap.size v' (X.take (j+1))/\Bw w W3):=kA ⟨by rw[xQ.out];exact k1,zaP (zad HB (zaa _ _)) k2 (λb e=>(HO.lt b e).1)⟩;clear k1 k2 k3 HO HB c0 c1 c2 c3 c4 c5 c6 c7 c8 c9 c10 c11 kj;go_wp2;go_roundw
   case rel=>exact⟨j+1,by go_num,om,K.1,K.2⟩
   case measure=>simp[ivl] <;> omega
  ·obtain rfl:j=n:=om;have j2:¬(j:Int)<(j:Int):=om
   have Co:Hid (OwnX 12 cRc 128 wr w.heap.size u3 X):=kA (by
    have q:=HO.out;rw[take_of_length_le (by rw[kJ.out];exact Nat.le_refl _)]at q
    exact q)
   go_wp2;go_ret;exact⟨u3,rfl,Co.out,HB⟩
theorem zkz(a1:Option Addr)(c1:Nat)(a2:Option Addr)(c2 n:Nat)(X:List Rc)(w:World)(r1:zbz w a1 n X)(r2:zbz w a2 n X):
  Calls prog 24 #[.slice a1 n c1,.slice a2 n c2] w λe w'=>e= .returned (.bool true)/\Bw w w':=by
 have Hy:=r1.2.1;have De:=kA r1;have ki:=kA r2;have g1:((n:Int) != (n:Int))=false:=by simp
 clear r1 r2;go_enter func24,ntmps24;go_wp2
 go_loopw [5] (λv5 wr=>∃j:Nat,v5= .int .i64 j/\j<=n/\Bw w wr) (λv5 _=>n - (ivl v5).toNat)
 case atStart=>exact⟨0,rfl,om,Below.refl _ _⟩
 case round=>
  obtain⟨j,rfl,hj,hb⟩:=hrel;have HB:=kA hb;clear hb
  by_cases hlt:j<n
  ·obtain⟨b,off,x,rfl,Ho,hx,hr⟩:=De.at_ hlt;obtain⟨b',dV,y,rfl,YL,hy,C2⟩:=ki.at_ hlt;obtain rfl:y=x:=by rw[hx]at hy;injection hy with e;exact e.symm
   have HS:Hid (∀W,Bw wr W->W.rangeAt b (off+j*12) (cRc y)/\W.rangeAt b' (dV+j*12) (cRc y)):=kA (λW hb=>⟨zaF hr ((zad HB hb).block b Ho),zaF C2 ((zad HB hb).block b' YL)⟩);have HEq:∀w,(Op.equalIn 10000 128 (.agg (cRc y).toArray) (.agg (cRc y).toArray)).run prog w= .ok true w:=λw=>by rw[zAj,zhi]
   have Ha:=kA (zxl y);obtain⟨XX,cB⟩:∃XX,XX=cRc y:=⟨_,rfl⟩;rw[<-cB]at HS HEq Ha;have p0:(0:Int)<=(j:Int):=om;have p1:(j:Int)<(n:Int):=om;clear cB hx hy hr C2 Ho YL;go_wp2_with fail;refine wp_region_held_drew (S:=λw'=>w'.rangeAt b (off+j*12) XX/\w'.rangeAt b' (dV+j*12) XX) oM (HS _ (zaE (Below.refl _ _))) (λhHeld=> ?_);refine tk 0 hHeld ?_;refine tk 1 hHeld ?_;refine tk 2 hHeld ?_;refine tkl 3 rfl (yieldsIf_load_mid (by rfl) _ _ rfl _ _ rfl _ _ (λ_ h=>h.1) underlying128 rfl Ha) hHeld ?_;refine tk 4 hHeld ?_;refine tk 5 hHeld ?_;refine tk 6 hHeld ?_;refine tkl 7 rfl (yieldsIf_load_mid (by rfl) _ _ rfl _ _ rfl _ _ (λ_ h=>h.2) underlying128 rfl Ha) hHeld ?_;refine tk 8 hHeld ?_;refine wpAnyH_done oM ?_ _;clear hHeld;refine fin (λW=>Bw wr W) (zaE (Below.refl _ _)) ?_;clear HS;rintro W hb;have Hm:=kA (zad HB hb);clear hb HB;go_wp2;go_roundw
   case rel=>exact⟨j+1,by go_num,om,Hm⟩
   case measure=>simp[ivl] <;> omega
  ·have j2:¬(j:Int)<(n:Int):=om;go_wp2;go_ret;exact⟨rfl,HB⟩
end Go.Proofs.YtlibdcmcbinfnaaGreat
