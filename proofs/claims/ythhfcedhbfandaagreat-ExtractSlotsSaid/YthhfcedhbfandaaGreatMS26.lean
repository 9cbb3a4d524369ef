/-
  4 texts in one file, each with its own heading.
-/
import Derived.Test.YthhfcedhbfandaaGreatMS25
import Derived.Test.YthhfcedhbfandaaGreatMS18
import Derived.Test.YthhfcedhbfandaaGreatMS07
/-
  The record of the least name; what a merge of two lists whose names rise keeps; the merge's statement that draws its order.
-/
namespace Go.Proofs.YthhfcedhbfandaaGreat
open Go.RowKit

set_option maxHeartbeats 4000000 in
set_option maxRecDepth 100000 in
theorem least_pos (av : Option Addr) (n cap : Nat) (X : List Rc) (w : World) (row : RcRow w av n X) (hn : n ≤ 1000000) (hpos : 0 < n) :
    Calls Tryz.prog 218 #[.slice av n cap] w fun e w' => e = .returned (.tuple #[.agg (cRc (minK X (n - 1))).toArray, .bool true]) ∧ Below w.heap.size w w' := by
  have K0 := Blk.new w 92 (cRc zRc).toArray
  have HM := Lib.hid (min_any av n cap X (w.alloc (.cells (cRc zRc).toArray 92)) (row.keep (alloc_below _ _)) hn hpos)
  obtain ⟨y, hy⟩ : ∃ y, y = minK X (n - 1) := ⟨_, rfl⟩
  rw [← hy] at HM ⊢
  have HF : Hid (∀ W, Below (w.alloc (.cells (cRc zRc).toArray 92)).heap.size (w.alloc (.cells (cRc zRc).toArray 92)) W → W.there w.heap.size 0 12 ∧ Blk (W.setCells w.heap.size 0 (cRc y)) w.heap.size 92 (cRc y).toArray ∧ Below w.heap.size w (W.setCells w.heap.size 0 (cRc y))) := Lib.hid (fun W hb => by
    have k1 := K0.keep hb
    have := blk_setCells (cRc y) (o := 0) k1 (Nat.le_refl 12)
    rw [splice_rc] at this
    exact ⟨blk_there k1 (Nat.le_refl 12), this, below_setCells _ (bthen (alloc_below _ _) hb) (Nat.le_refl _)⟩)
  have HSz := Lib.hid (rc_size y)
  have HOy := Lib.hid (rc_all y)
  obtain ⟨XQ, hXQ⟩ : ∃ XQ, XQ = cRc y := ⟨_, rfl⟩
  have HLq : Hid (XQ.length = 12) := Lib.hid (by rw [hXQ]; rfl)
  rw [← hXQ] at HM HF HSz HOy ⊢
  have HSz' : Hid ((Tryz.prog.info? 92).map (·.size) = some XQ.toArray.size) := HSz
  have n1 : ((n : Int) == 0) = false := by simp; omega
  clear K0 hy hXQ row
  go_enter Tryz.func218, Tryz.ntmps218
  go_wp2_with fail
  refine HM.out.mono ?_
  rintro e w1 ⟨rfl, hb⟩
  have HF1 := Lib.hid (HF.out w1 hb)
  have HTh : Hid (w1.there w.heap.size 0 XQ.toArray.size) := Lib.hid (by show w1.there w.heap.size 0 XQ.length; rw [HLq.out]; exact HF1.out.1)
  clear hb HF HM
  go_wp2_with (refine wpList_store_mid rfl 92 (.tmp 2) (.tmp 9) rfl w.heap.size 0 XQ.toArray rfl rfl HTh.out HSz'.out HOy.out ?_)
  refine fin (fun W => Blk W w.heap.size 92 XQ.toArray ∧ Below w.heap.size w W) HF1.out.2 ?_
  rintro W ⟨kr, hbf⟩
  have hl := run_loadVar_mid W w.heap.size 0 92 XQ _ (blk_whole kr) Tryz.underlying92 rfl HSz.out
  (try simp only [Act.put, List.setIfInBounds_toArray, List.set_cons_zero, List.set_cons_succ])
  exact bodyPost_ret (v := .tuple #[.agg XQ.toArray, .bool true]) (results_cell2 Tryz.results218 rfl rfl hl) rfl ⟨rfl, hbf⟩
structure MrgAt (F O Z F' O' : List Rc) : Prop where
  rz : Rise Z
  rf : Rise F'
  ro : Rise O'
  zf : ∀ z ∈ Z, ∀ x ∈ F', z.id < x.id
  zo : ∀ z ∈ Z, ∀ x ∈ O', z.id < x.id
  lk : ∀ k, (look k Z).or ((look k F').or (look k O')) = (look k F).or (look k O)
theorem mrgAt_start {F O : List Rc} (hF : Rise F) (hO : Rise O) : MrgAt F O [] F O := ⟨List.Pairwise.nil, hF, hO, (fun z hz => by cases hz), (fun z hz => by cases hz), fun k => rfl⟩
theorem rise_snoc {Z : List Rc} {r : Rc} (h : Rise Z) (hl : ∀ z ∈ Z, z.id < r.id) : Rise (Z ++ [r]) :=
  List.pairwise_append.2 ⟨h, List.pairwise_singleton _ _, fun a ha b hb => by rw [List.mem_singleton.1 hb]; exact hl a ha⟩
theorem look_one (k : Int) (r : Rc) : look k [r] = if r.id = k then some r else none := by rw [look_cons]; rfl
theorem MrgAt.old {F O Z F' O' : List Rc} {f o : Rc} (h : MrgAt F O Z (f :: F') (o :: O')) (hlt : o.id < f.id) : MrgAt F O (Z ++ [o]) (f :: F') O' := by
  obtain ⟨f1, f2⟩ := rise_cons.1 h.rf
  obtain ⟨o1, o2⟩ := rise_cons.1 h.ro
  have hof : ∀ x ∈ f :: F', o.id < x.id := fun x hx => by
    rcases List.mem_cons.1 hx with rfl | hx
    · exact hlt
    · have := f1 x hx; omega
  refine ⟨rise_snoc h.rz (fun z hz => h.zo z hz o List.mem_cons_self), h.rf, o2, fun z hz x hx => ?_, fun z hz x hx => ?_, fun k => ?_⟩
  · rcases List.mem_append.1 hz with hz | hz
    · exact h.zf z hz x hx
    · rw [List.mem_singleton.1 hz]; exact hof x hx
  · rcases List.mem_append.1 hz with hz | hz
    · exact h.zo z hz x (List.mem_cons_of_mem _ hx)
    · rw [List.mem_singleton.1 hz]; exact o1 x hx
  · rw [← h.lk k, look_app, look_one, look_cons k o, Option.or_assoc]
    by_cases hk : o.id = k
    · rw [if_pos hk, if_pos hk, look_none (k := k) (L := f :: F') (fun x hx => by have := hof x hx; omega)]
      simp
    · rw [if_neg hk, if_neg hk, Option.none_or]
theorem MrgAt.fresh {F O Z F' O' : List Rc} {f o : Rc} (h : MrgAt F O Z (f :: F') (o :: O')) (hlt : f.id < o.id) : MrgAt F O (Z ++ [f]) F' (o :: O') := by
  obtain ⟨f1, f2⟩ := rise_cons.1 h.rf
  obtain ⟨o1, o2⟩ := rise_cons.1 h.ro
  refine ⟨rise_snoc h.rz (fun z hz => h.zf z hz f List.mem_cons_self), f2, h.ro, fun z hz x hx => ?_, fun z hz x hx => ?_, fun k => ?_⟩
  · rcases List.mem_append.1 hz with hz | hz
    · exact h.zf z hz x (List.mem_cons_of_mem _ hx)
    · rw [List.mem_singleton.1 hz]; exact f1 x hx
  · rcases List.mem_append.1 hz with hz | hz
    · exact h.zo z hz x hx
    · rw [List.mem_singleton.1 hz]
      rcases List.mem_cons.1 hx with rfl | hx
      · exact hlt
      · have := o1 x hx; omega
  · rw [← h.lk k, look_app, look_one, look_cons k f, Option.or_assoc]
    by_cases hk : f.id = k
    · rw [if_pos hk, if_pos hk]; simp
    · rw [if_neg hk, if_neg hk, Option.none_or]
theorem MrgAt.both {F O Z F' O' : List Rc} {f o : Rc} (h : MrgAt F O Z (f :: F') (o :: O')) (he : f.id = o.id) : MrgAt F O (Z ++ [f]) F' O' := by
  obtain ⟨f1, f2⟩ := rise_cons.1 h.rf
  obtain ⟨o1, o2⟩ := rise_cons.1 h.ro
  refine ⟨rise_snoc h.rz (fun z hz => h.zf z hz f List.mem_cons_self), f2, o2, fun z hz x hx => ?_, fun z hz x hx => ?_, fun k => ?_⟩
  · rcases List.mem_append.1 hz with hz | hz
    · exact h.zf z hz x (List.mem_cons_of_mem _ hx)
    · rw [List.mem_singleton.1 hz]; exact f1 x hx
  · rcases List.mem_append.1 hz with hz | hz
    · exact h.zo z hz x (List.mem_cons_of_mem _ hx)
    · rw [List.mem_singleton.1 hz, he]; exact o1 x hx
  · rw [← h.lk k, look_app, look_one, look_cons k f, look_cons k o, Option.or_assoc]
    by_cases hk : f.id = k
    · rw [if_pos hk, if_pos hk]; simp
    · rw [if_neg hk, if_neg hk, if_neg (by omega), Option.none_or]
theorem MrgAt.last {F O Z F' O' : List Rc} (h : MrgAt F O Z F' O') (he : F' = [] ∨ O' = []) : Rise (Z ++ F' ++ O') ∧ ∀ k, look k (Z ++ F' ++ O') = (look k F).or (look k O) := by
  refine ⟨?_, fun k => by rw [look_app, look_app, Option.or_assoc]; exact h.lk k⟩
  rcases he with rfl | rfl
  · rw [List.append_nil]; exact List.pairwise_append.2 ⟨h.rz, h.ro, h.zo⟩
  · rw [List.append_nil]; exact List.pairwise_append.2 ⟨h.rz, h.rf, h.zf⟩
set_option maxHeartbeats 8000000 in
set_option maxRecDepth 100000 in
theorem mrg_r3 {u2 u3 u4 u5 u6 u7 u8 u9 u10 u11 u12 u13 u14 u15 u16 u17 u18 u19 u20 u21 u22 u23 u24 u25 u26 u27 u28 u29 u30 u31 u32 u33 u34 u35 u36 u37 u38 u39 u40 u41 u42 u43 u44 u45 u46 u47 u48 u49 u50 u51 u52 u53 u54 u55 : Value} {Q : Exit → Go.Act → World → Prop} {bf of nf cf bo oo no co : Nat} {XF XO : List Value} {w : World}
    (hQ : ∀ c a d v w, Q (.panic c) (a.put d v) w → Q (.panic c) a w)
    (hf : 0 < nf) (ho : 0 < no)
    (hLf : XF.length = 12) (hLo : XO.length = 12) (hOf : XF.toArray.all (·.oneCell') = true) (hOo : XO.toArray.all (·.oneCell') = true)
    (hS : ∀ W, Below w.heap.size w W → W.rangeAt bf of XF ∧ W.rangeAt bo oo XO)
    (hk : ∀ W' g6 g7, Blk W' g6 92 XF.toArray → Blk W' g7 92 XO.toArray → g6 ≠ g7 → w.heap.size ≤ g6 → w.heap.size ≤ g7 → Below w.heap.size w W' → Q .normal { tmps := #[.slice (some ⟨bf, of, none⟩) nf cf, .slice (some ⟨bo, oo, none⟩) no co, u2, u3, u4, u5, .pointer (some ⟨g6, 0, none⟩), .pointer (some ⟨g7, 0, none⟩), u8, u9, u10, u11, u12, u13, u14, u15, u16, u17, u18, u19, u20, u21, u22, u23, .slice (some ⟨bf, of, none⟩) nf cf, .pointer (some ⟨bf, of, none⟩), .agg XF.toArray, .slice (some ⟨bo, oo, none⟩) no co, .pointer (some ⟨bo, oo, none⟩), .agg XO.toArray, u30, u31, u32, u33, u34, u35, u36, u37, u38, u39, u40, u41, u42, u43, u44, u45, u46, u47, u48, u49, u50, u51, u52, u53, u54, u55], defers := [] } W') :
    (Code.region 3 #[{ dst := some 24, op := Op.move (Operand.tmp 0), type := 85, pos := "record.go:103", after := #[], guard := none }, { dst := some 25, op := Op.indexAddr 85 (Operand.tmp 24) (Operand.const (Value.int IntKind.i64 0)), type := 0, pos := "record.go:103", after := #[{ on := 0, ground := Ground.data }], guard := none }, { dst := some 26, op := Op.load 92 (Operand.tmp 25), type := 92, pos := "record.go:103", after := #[{ on := 1, ground := Ground.data }], guard := none }, { dst := some 27, op := Op.move (Operand.tmp 1), type := 85, pos := "record.go:103", after := #[{ on := 8, ground := Ground.gcOnly Departure.lateStores }], guard := none }, { dst := some 28, op := Op.indexAddr 85 (Operand.tmp 27) (Operand.const (Value.int IntKind.i64 0)), type := 0, pos := "record.go:103", after := #[{ on := 3, ground := Ground.data }, { on := 8, ground := Ground.gcOnly Departure.lateStores }], guard := none }, { dst := some 29, op := Op.load 92 (Operand.tmp 28), type := 92, pos := "record.go:103", after := #[{ on := 4, ground := Ground.data }, { on := 8, ground := Ground.gcOnly Departure.lateStores }], guard := none }, { dst := some 6, op := Op.alloc 92, type := 0, pos := "record.go:103", after := #[], guard := none }, { dst := some 7, op := Op.alloc 92, type := 0, pos := "record.go:103", after := #[], guard := none }, { dst := none, op := Op.store 92 (Operand.tmp 6) (Operand.tmp 26), type := 0, pos := "record.go:103", after := #[{ on := 6, ground := Ground.data }, { on := 2, ground := Ground.data }, { on := 0, ground := Ground.phase }, { on := 1, ground := Ground.phase }, { on := 2, ground := Ground.phase }, { on := 3, ground := Ground.textOnly Departure.lateStores }, { on := 4, ground := Ground.textOnly Departure.lateStores }, { on := 5, ground := Ground.textOnly Departure.lateStores }, { on := 6, ground := Ground.phase }, { on := 7, ground := Ground.phase }], guard := none }, { dst := none, op := Op.store 92 (Operand.tmp 7) (Operand.tmp 29), type := 0, pos := "record.go:103", after := #[{ on := 7, ground := Ground.data }, { on := 5, ground := Ground.data }, { on := 8, ground := Ground.chain }, { on := 0, ground := Ground.phase }, { on := 1, ground := Ground.phase }, { on := 2, ground := Ground.phase }, { on := 3, ground := Ground.phase }, { on := 4, ground := Ground.phase }, { on := 5, ground := Ground.phase }, { on := 6, ground := Ground.phase }, { on := 7, ground := Ground.phase }, { on := 8, ground := Ground.phase }], guard := none }] true).wp Tryz.prog Q { tmps := #[.slice (some ⟨bf, of, none⟩) nf cf, .slice (some ⟨bo, oo, none⟩) no co, u2, u3, u4, u5, u6, u7, u8, u9, u10, u11, u12, u13, u14, u15, u16, u17, u18, u19, u20, u21, u22, u23, u24, u25, u26, u27, u28, u29, u30, u31, u32, u33, u34, u35, u36, u37, u38, u39, u40, u41, u42, u43, u44, u45, u46, u47, u48, u49, u50, u51, u52, u53, u54, u55], defers := [] } w := by
  have HK := Lib.hid hk
  have HS := Lib.hid hS
  have HSf : Hid ((Tryz.prog.info? 92).map (·.size) = some XF.length) := Lib.hid (by rw [hLf]; kernel_rfl)
  have HSo : Hid ((Tryz.prog.info? 92).map (·.size) = some XO.length) := Lib.hid (by rw [hLo]; kernel_rfl)
  have HSf' : Hid ((Tryz.prog.info? 92).map (·.size) = some XF.toArray.size) := HSf
  have HSo' : Hid ((Tryz.prog.info? 92).map (·.size) = some XO.toArray.size) := HSo
  have HOf := Lib.hid hOf
  have HOo := Lib.hid hOo
  have HLf := Lib.hid hLf
  have HLo := Lib.hid hLo
  clear hk hS hLf hLo hOf hOo
  refine wp_region_held_drew (S := fun w' => w'.rangeAt bf of XF ∧ w'.rangeAt bo oo XO) (by kernel_rfl) (HS.out _ (bdrew (Below.refl _ _))) (fun hHeld => ?_)
  refine tk 0 hHeld ?_ (hQ := fun c a w h => hQ c a _ _ w h)
  refine tk 1 hHeld ?_ (hQ := fun c a w h => hQ c a _ _ w h)
  refine wpAnyH_take (i := 2) (v := _) rfl (by kernel_rfl) (by kernel_rfl) (by kernel_rfl) (fun c a w h => hQ c a _ _ w h) (yieldsIf_load_mid (by rfl) _ _ rfl _ _ rfl _ _ (fun _ h => h.1) Tryz.underlying92 rfl HSf.out) hHeld ?_
  simp only [Act.put, List.getElem_toArray, List.getElem_cons_zero, List.getElem_cons_succ, List.setIfInBounds_toArray, List.set_cons_zero, List.set_cons_succ]
  refine tk 3 hHeld ?_ (hQ := fun c a w h => hQ c a _ _ w h)
  refine tk 4 hHeld ?_ (hQ := fun c a w h => hQ c a _ _ w h)
  refine wpAnyH_take (i := 5) (v := _) rfl (by kernel_rfl) (by kernel_rfl) (by kernel_rfl) (fun c a w h => hQ c a _ _ w h) (yieldsIf_load_mid (by rfl) _ _ rfl _ _ rfl _ _ (fun _ h => h.2) Tryz.underlying92 rfl HSo.out) hHeld ?_
  simp only [Act.put, List.getElem_toArray, List.getElem_cons_zero, List.getElem_cons_succ, List.setIfInBounds_toArray, List.set_cons_zero, List.set_cons_succ]
  refine fin (fun W => Below w.heap.size w W) (bdrew (Below.refl _ _)) ?_
  clear hHeld
  rintro W hb
  have HB := Lib.hid hb
  clear hb
  refine wpAnyH_ready (rs := [6, 7]) (by kernel_rfl) (by simp) ?_
  refine AllReadyH.cons rfl (fun K hK => ?_) (AllReadyH.cons rfl (fun K hK => ?_) AllReadyH.nil)
  · go_simp
    refine hK.out _ _ (HS.out _ (balloc HB.out _)) (fun hHeld => ?_)
    clear hK K
    refine fin (fun W2 => W.heap.size < W2.heap.size ∧ Blk W2 W.heap.size 92 (cRc zRc).toArray ∧ Below w.heap.size w W2) ⟨by simp, Blk.new _ _ _, balloc HB.out _⟩ ?_
    clear hHeld
    rintro W2 ⟨hlt, ka, hb⟩
    have KA := Lib.hid ka
    have HB2 := Lib.hid hb
    clear ka hb
    refine rd 7 (fun K hK => ?_)
    go_simp
    refine hK.out _ _ (HS.out _ (balloc HB2.out _)) (fun hHeld => ?_)
    clear hK K
    refine fin (fun W3 => Blk W3 W.heap.size 92 (cRc zRc).toArray ∧ Blk W3 W2.heap.size 92 (cRc zRc).toArray ∧ Below w.heap.size w W3) ⟨KA.out.alloc _, Blk.new _ _ _, balloc HB2.out _⟩ ?_
    clear hHeld KA
    have hw1 := HB.out.size
    have hw2 := HB2.out.size
    obtain ⟨ga, hga⟩ : ∃ ga, ga = W.heap.size := ⟨_, rfl⟩
    obtain ⟨gb, hgb⟩ : ∃ gb, gb = W2.heap.size := ⟨_, rfl⟩
    rw [← hga] at hlt hw1 ⊢
    rw [← hgb] at hlt hw2 ⊢
    clear hga hgb HB HB2
    rintro W3 ⟨ka, kb, hb⟩
    have KA := Lib.hid ka
    have KB := Lib.hid kb
    have HB3 := Lib.hid hb
    clear ka kb hb
    refine rd 8 (fun K hK => ?_)
    rw [if_pos (by rfl)]
    refine wp_store_mid 92 (.tmp 6) (.tmp 26) rfl ga 0 XF.toArray rfl rfl (blk_there KA.out (by show 0 + XF.length ≤ 12; rw [HLf.out]; exact Nat.le_refl 12)) HSf'.out HOf.out ?_
    have h1 : Blk (W3.setCells ga 0 XF) ga 92 XF.toArray := by
      have := blk_setCells XF (o := 0) KA.out (by rw [HLf.out]; exact Nat.le_refl 12)
      rw [splice_all (by rw [HLf.out]; rfl)] at this
      exact this
    have h2 : Blk (W3.setCells ga 0 XF) gb 92 (cRc zRc).toArray := blk_setFar XF KB.out (by omega)
    have h3 : Below w.heap.size w (W3.setCells ga 0 XF) := below_setCells XF HB3.out (by omega)
    refine hK.out _ _ (HS.out _ h3) (fun hHeld => ?_)
    clear hK K
    refine fin (fun W4 => Blk W4 ga 92 XF.toArray ∧ Blk W4 gb 92 (cRc zRc).toArray ∧ Below w.heap.size w W4) ⟨h1, h2, h3⟩ ?_
    clear hHeld KA KB HB3 h1 h2 h3
    rintro W4 ⟨k6, k7, hb⟩
    have K6 := Lib.hid k6
    have K7 := Lib.hid k7
    have HB4 := Lib.hid hb
    clear k6 k7 hb
    refine rd 9 (fun K hK => ?_)
    rw [if_pos (by rfl)]
    refine wp_store_mid 92 (.tmp 7) (.tmp 29) rfl gb 0 XO.toArray rfl rfl (blk_there K7.out (by show 0 + XO.length ≤ 12; rw [HLo.out]; exact Nat.le_refl 12)) HSo'.out HOo.out ?_
    have h1 : Blk (W4.setCells gb 0 XO) gb 92 XO.toArray := by
      have := blk_setCells XO (o := 0) K7.out (by rw [HLo.out]; exact Nat.le_refl 12)
      rw [splice_all (by rw [HLo.out]; rfl)] at this
      exact this
    have h2 : Blk (W4.setCells gb 0 XO) ga 92 XF.toArray := blk_setFar XO K6.out (by omega)
    have h3 : Below w.heap.size w (W4.setCells gb 0 XO) := below_setCells XO HB4.out (by omega)
    refine hK.out _ _ (HS.out _ h3) (fun hHeld => ?_)
    clear hK K
    refine wpAnyH_done (by kernel_rfl) ?_ _
    exact HK.out _ ga gb h2 h1 (by omega) (by omega) (by omega) h3
  · go_simp
    refine hK.out _ _ (HS.out _ (balloc HB.out _)) (fun hHeld => ?_)
    clear hK K
    refine fin (fun W2 => W.heap.size < W2.heap.size ∧ Blk W2 W.heap.size 92 (cRc zRc).toArray ∧ Below w.heap.size w W2) ⟨by simp, Blk.new _ _ _, balloc HB.out _⟩ ?_
    clear hHeld
    rintro W2 ⟨hlt, ka, hb⟩
    have KA := Lib.hid ka
    have HB2 := Lib.hid hb
    clear ka hb
    refine rd 6 (fun K hK => ?_)
    go_simp
    refine hK.out _ _ (HS.out _ (balloc HB2.out _)) (fun hHeld => ?_)
    clear hK K
    refine fin (fun W3 => Blk W3 W.heap.size 92 (cRc zRc).toArray ∧ Blk W3 W2.heap.size 92 (cRc zRc).toArray ∧ Below w.heap.size w W3) ⟨KA.out.alloc _, Blk.new _ _ _, balloc HB2.out _⟩ ?_
    clear hHeld KA
    have hw1 := HB.out.size
    have hw2 := HB2.out.size
    obtain ⟨ga, hga⟩ : ∃ ga, ga = W.heap.size := ⟨_, rfl⟩
    obtain ⟨gb, hgb⟩ : ∃ gb, gb = W2.heap.size := ⟨_, rfl⟩
    rw [← hga] at hlt hw1 ⊢
    rw [← hgb] at hlt hw2 ⊢
    clear hga hgb HB HB2
    rintro W3 ⟨ka, kb, hb⟩
    have KA := Lib.hid ka
    have KB := Lib.hid kb
    have HB3 := Lib.hid hb
    clear ka kb hb
    refine rd 8 (fun K hK => ?_)
    rw [if_pos (by rfl)]
    refine wp_store_mid 92 (.tmp 6) (.tmp 26) rfl gb 0 XF.toArray rfl rfl (blk_there KB.out (by show 0 + XF.length ≤ 12; rw [HLf.out]; exact Nat.le_refl 12)) HSf'.out HOf.out ?_
    have h1 : Blk (W3.setCells gb 0 XF) gb 92 XF.toArray := by
      have := blk_setCells XF (o := 0) KB.out (by rw [HLf.out]; exact Nat.le_refl 12)
      rw [splice_all (by rw [HLf.out]; rfl)] at this
      exact this
    have h2 : Blk (W3.setCells gb 0 XF) ga 92 (cRc zRc).toArray := blk_setFar XF KA.out (by omega)
    have h3 : Below w.heap.size w (W3.setCells gb 0 XF) := below_setCells XF HB3.out (by omega)
    refine hK.out _ _ (HS.out _ h3) (fun hHeld => ?_)
    clear hK K
    refine fin (fun W4 => Blk W4 gb 92 XF.toArray ∧ Blk W4 ga 92 (cRc zRc).toArray ∧ Below w.heap.size w W4) ⟨h1, h2, h3⟩ ?_
    clear hHeld KA KB HB3 h1 h2 h3
    rintro W4 ⟨k6, k7, hb⟩
    have K6 := Lib.hid k6
    have K7 := Lib.hid k7
    have HB4 := Lib.hid hb
    clear k6 k7 hb
    refine rd 9 (fun K hK => ?_)
    rw [if_pos (by rfl)]
    refine wp_store_mid 92 (.tmp 7) (.tmp 29) rfl ga 0 XO.toArray rfl rfl (blk_there K7.out (by show 0 + XO.length ≤ 12; rw [HLo.out]; exact Nat.le_refl 12)) HSo'.out HOo.out ?_
    have h1 : Blk (W4.setCells ga 0 XO) ga 92 XO.toArray := by
      have := blk_setCells XO (o := 0) K7.out (by rw [HLo.out]; exact Nat.le_refl 12)
      rw [splice_all (by rw [HLo.out]; rfl)] at this
      exact this
    have h2 : Blk (W4.setCells ga 0 XO) gb 92 XF.toArray := blk_setFar XO K6.out (by omega)
    have h3 : Below w.heap.size w (W4.setCells ga 0 XO) := below_setCells XO HB4.out (by omega)
    refine hK.out _ _ (HS.out _ h3) (fun hHeld => ?_)
    clear hK K
    refine wpAnyH_done (by kernel_rfl) ?_ _
    exact HK.out _ gb ga h2 h1 (by omega) (by omega) (by omega) h3
def slenR : Value → Nat
  | .slice _ n _ => n
  | _ => 0
theorem bs_rc1 (x : Rc) (W : World) : (Instr.buildSlice 85 1 #[(0, .agg (cRc x).toArray)]).run Tryz.prog W = .ok (.slice (some ⟨W.heap.size, 0, none⟩) 1 1) (W.alloc (.cells (cRc x).toArray 92)) := by kernel_rfl
theorem bs_rc2 (x y : Rc) (W : World) : (Instr.buildSlice 85 2 #[(0, .agg (cRc x).toArray), (1, .agg (cRc y).toArray)]).run Tryz.prog W = .ok (.slice (some ⟨W.heap.size, 0, none⟩) 2 2) (W.alloc (.cells (cRc x ++ cRc y).toArray 92)) := by kernel_rfl
theorem wpList_bsR1 {ops : Array Oper} {rest : List Oper} {op : Oper} {a : Go.Act} {w : World} {Q : Exit → Go.Act → World → Prop} (hgd : op.guard = none) (t e : TypeId) (x : Operand) (ho : op.op = .buildSlice t 1 #[(0, x)]) (X : List Value) (hx : a.eval x = .agg X.toArray)
    (hrun : ∀ W, (Instr.buildSlice t 1 #[(0, .agg X.toArray)]).run Tryz.prog W = .ok (.slice (some ⟨W.heap.size, 0, none⟩) 1 1) (W.alloc (.cells X.toArray e)))
    (h : wpList Tryz.prog ops Q rest (a.put op.dst (.slice (some ⟨w.heap.size, 0, none⟩) 1 1)) (w.alloc (.cells X.toArray e))) : wpList Tryz.prog ops Q (op :: rest) a w := by
  refine wpList_plain hgd fun K hK => ?_
  unfold Oper.wp execOp
  simp only [ho]
  simp [hx, hrun]
  exact hK _ _ h
theorem wpList_bsR2 {ops : Array Oper} {rest : List Oper} {op : Oper} {a : Go.Act} {w : World} {Q : Exit → Go.Act → World → Prop} (hgd : op.guard = none) (t e : TypeId) (x y : Operand) (ho : op.op = .buildSlice t 2 #[(0, x), (1, y)]) (X Y : List Value) (hx : a.eval x = .agg X.toArray) (hy : a.eval y = .agg Y.toArray)
    (hrun : ∀ W, (Instr.buildSlice t 2 #[(0, .agg X.toArray), (1, .agg Y.toArray)]).run Tryz.prog W = .ok (.slice (some ⟨W.heap.size, 0, none⟩) 2 2) (W.alloc (.cells (X ++ Y).toArray e)))
    (h : wpList Tryz.prog ops Q rest (a.put op.dst (.slice (some ⟨w.heap.size, 0, none⟩) 2 2)) (w.alloc (.cells (X ++ Y).toArray e))) : wpList Tryz.prog ops Q (op :: rest) a w := by
  refine wpList_plain hgd fun K hK => ?_
  unfold Oper.wp execOp
  simp only [ho]
  simp [hx, hy, hrun]
  exact hK _ _ h
theorem row_two {W : World} {g : Nat} {x y : Rc} (k : Blk W g 92 (cRc x ++ cRc y).toArray) : RcRow W (some ⟨g, 0, none⟩) 2 [x, y] :=
  ⟨rfl, by omega, Or.inr ⟨g, 0, rfl, k.lt, fun i z hz => by
    match i, hz with
    | 0, hz =>
      injection hz with hz
      subst hz
      have := blk_range k 0 12
      exact this
    | 1, hz =>
      injection hz with hz
      subst hz
      have := blk_range k 12 12
      exact this⟩⟩
theorem row_tail {w : World} {b off n c : Nat} {x : Rc} {X : List Rc} (h : RcRow w (some ⟨b, off, none⟩) n (x :: X)) (hc : n ≤ c) : RcRow w (if c = 1 then some ⟨b, off, none⟩ else some ⟨b, off + 12, none⟩) (n - 1) X := by
  have hl : X.length = n - 1 := by have := h.1; simp at this; omega
  refine ⟨hl, by have := h.2.1; omega, ?_⟩
  by_cases c1 : c = 1
  · left
    have := h.1
    simp at this
    omega
  · rw [if_neg c1]
    rcases h.2.2 with h0 | ⟨b', off', e, hb, hr⟩
    · have := h.1; simp at this; omega
    · injection e with e; injection e with e1 e2; subst e1 e2
      refine Or.inr ⟨b, off + 12, rfl, hb, fun i z hz => ?_⟩
      have := hr (i + 1) z (by simpa using hz)
      rw [Nat.add_mul, Nat.one_mul] at this
      rw [show off + 12 + i * 12 = off + (i * 12 + 12) by omega]
      exact this
set_option maxHeartbeats 16000000 in
set_option maxRecDepth 100000 in
theorem mrg_any (aF : Option Addr) (nF cF : Nat) (F : List Rc) (aO : Option Addr) (nO cO : Nat) (O : List Rc) (w : World) (rF : RcRow w aF nF F) (rO : RcRow w aO nO O) (hcF : nF ≤ cF) (hmF : cF ≤ maxLen) (hcO : nO ≤ cO) (hmO : cO ≤ maxLen) (hF : Rise F) (hO : Rise O) (hn : nF + nO ≤ 2000) :
    Calls Tryz.prog 139 #[.slice aF nF cF, .slice aO nO cO] w fun e w' => ∃ v X, e = .returned v ∧ OwnX 12 cRc 92 w' w.heap.size v X ∧ X.length ≤ nF + nO ∧ Rise X ∧ (∀ k, look k X = (look k F).or (look k O)) ∧ Below w.heap.size w w' := by
  obtain ⟨i0, hi0, hz0, hz1, hz2⟩ := info_parts zRc_info
  obtain ⟨wm, hmk, hom, hgm⟩ := run_make_own (P := Tryz.prog) (w := w) w.heap.size 85 92 i0 _ 12 Tryz.underlying85 hi0 hz0 hz1 .i64 .i64 (nF + nO) (by rw [hz2]; omega) (by unfold maxLen; omega) (Nat.le_refl _)
  rw [show (((nF + nO : Nat)) : Int) = (nF : Int) + (nO : Int) by omega] at hmk
  unfold maxLen at hmF hmO
  have HOm : Hid (OwnX 12 cRc 92 wm w.heap.size (.slice (some ⟨w.heap.size, 0, none⟩) 0 (nF + nO)) ([] : List Rc)) := Lib.hid hom
  have HBm : Hid (Below w.heap.size w wm) := Lib.hid ⟨hgm.os, hgm.tape, hgm.output, hgm.size, fun q hq => hgm.block q hq (by simp)⟩
  have H0 := Lib.hid (And.intro rF (And.intro rO (mrgAt_start hF hO)))
  clear hi0 hz0 hz1 hz2 hom hgm rF rO hF hO i0
  go_enter Tryz.func139, Tryz.ntmps139
  go_wp2
  go_loopw [0, 1, 5, 6, 7, 8, 9] (fun v0 v1 v5 _ _ _ _ wr => ∃ (a1 : Option Addr) (n1 c1 : Nat) (F' : List Rc) (a2 : Option Addr) (n2 c2 : Nat) (O' Z : List Rc), v0 = .slice a1 n1 c1 ∧ v1 = .slice a2 n2 c2 ∧ RcRow w a1 n1 F' ∧ RcRow w a2 n2 O' ∧ n1 ≤ c1 ∧ c1 ≤ 9223372036854775807 ∧ n2 ≤ c2 ∧ c2 ≤ 9223372036854775807 ∧ Z.length + n1 + n2 ≤ nF + nO ∧ OwnX 12 cRc 92 wr w.heap.size v5 Z ∧ MrgAt F O Z F' O' ∧ Below w.heap.size w wr) (fun v0 v1 _ _ _ _ _ _ => slenR v0 + slenR v1)
  case atStart => exact ⟨aF, nF, cF, F, aO, nO, cO, O, [], rfl, rfl, H0.out.1, H0.out.2.1, hcF, hmF, hcO, hmO, by simp, HOm.out, H0.out.2.2, HBm.out⟩
  case round =>
    clear H0 HOm HBm hmk
    obtain ⟨a1, n1, c1, F', a2, n2, c2, O', Z, rfl, rfl, r1, r2, hc1, hm1, hc2, hm2, hl, ho, hm, hb⟩ := hrel
    have HR1 := Lib.hid r1
    have HR2 := Lib.hid r2
    have HOx := Lib.hid ho
    have HM := Lib.hid hm
    have HB := Lib.hid hb
    clear r1 r2 ho hm hb
    have hwr : Hid (w.heap.size ≤ wr.heap.size) := Lib.hid HB.out.size
    have HEnd : Hid ((n1 = 0 ∨ n2 = 0) → ∀ v' X w', X = Z ++ F' ++ O' → OwnX 12 cRc 92 w' w.heap.size v' X → Below w.heap.size w w' → ∃ v X, Ending.returned v' = Ending.returned v ∧ OwnX 12 cRc 92 w' w.heap.size v X ∧ X.length ≤ nF + nO ∧ Rise X ∧ (∀ k, look k X = (look k F).or (look k O)) ∧ Below w.heap.size w w') := Lib.hid (fun h0 v' X w' e ho hb => by
      have h1 : F' = [] ∨ O' = [] := h0.imp (fun q => List.eq_nil_of_length_eq_zero (HR1.out.1.trans q)) (fun q => List.eq_nil_of_length_eq_zero (HR2.out.1.trans q))
      obtain ⟨l1, l2⟩ := HM.out.last h1
      rw [← e] at l1 l2
      exact ⟨v', X, rfl, ho, by rw [e, List.length_append, List.length_append, HR1.out.1, HR2.out.1]; omega, l1, l2, hb⟩)
    by_cases h1 : 0 < n1
    · by_cases h2 : 0 < n2
      · obtain ⟨bf, of, f, rfl, hbf, hf0, hrf⟩ := HR1.out.at_ h1
        obtain ⟨bo, oo, o, rfl, hbo, ho0, hro⟩ := HR2.out.at_ h2
        obtain ⟨F2, hF2⟩ : ∃ F2, F' = f :: F2 := by
          cases F' with
          | nil => simp at hf0
          | cons a b => simp at hf0; exact ⟨b, by rw [hf0]⟩
        obtain ⟨O2, hO2⟩ : ∃ O2, O' = o :: O2 := by
          cases O' with
          | nil => simp at ho0
          | cons a b => simp at ho0; exact ⟨b, by rw [ho0]⟩
        subst hF2 hO2
        rw [Nat.zero_mul, Nat.add_zero] at hrf hro
        have HS : Hid (∀ W, Below wr.heap.size wr W → W.rangeAt bf of (cRc f) ∧ W.rangeAt bo oo (cRc o)) := Lib.hid (fun W hb => ⟨range_same hrf ((bthen HB.out hb).block bf hbf), range_same hro ((bthen HB.out hb).block bo hbo)⟩)
        obtain ⟨r, hr⟩ : ∃ r, r = minK [f, o] 1 := ⟨_, rfl⟩
        have hrc : (o.id < f.id ∧ r = o) ∨ (¬ o.id < f.id ∧ r = f) := by
          by_cases c : o.id < f.id
          · exact Or.inl ⟨c, by rw [hr]; exact mink_less (X := [f, o]) (k := 0) (x := o) rfl c⟩
          · exact Or.inr ⟨c, by rw [hr]; exact mink_stay (X := [f, o]) (k := 0) (x := o) rfl c⟩
        have HNx : Hid ((eqRc r f = true ∧ (r.id == o.id) = true ∧ MrgAt F O (Z ++ [r]) F2 O2) ∨ (eqRc r f = true ∧ (r.id == o.id) = false ∧ MrgAt F O (Z ++ [r]) F2 (o :: O2)) ∨ (eqRc r f = false ∧ (r.id == o.id) = true ∧ MrgAt F O (Z ++ [r]) (f :: F2) O2)) := Lib.hid (by
          rcases hrc with ⟨c, e⟩ | ⟨c, e⟩
          · rw [e]
            exact Or.inr (Or.inr ⟨eqRc_ne (fun q => by rw [q] at c; omega), by simp, HM.out.old c⟩)
          · rw [e]
            by_cases c2 : f.id = o.id
            · exact Or.inl ⟨eqRc_self f, by simpa using c2, HM.out.both c2⟩
            · exact Or.inr (Or.inl ⟨eqRc_self f, by simpa using c2, HM.out.fresh (by omega)⟩))
        have HLe : Hid (∀ h W, Blk W h 92 (cRc f ++ cRc o).toArray → Calls Tryz.prog 218 #[.slice (some ⟨h, 0, none⟩) 2 2] W fun e w' => e = .returned (.tuple #[.agg (cRc r).toArray, .bool true]) ∧ Below W.heap.size W w') := Lib.hid (fun h W k => by
          rw [hr]
          exact least_pos (some ⟨h, 0, none⟩) 2 2 [f, o] W (row_two k) (by omega) (by omega))
        have HSm : Hid (∀ W, Calls Tryz.prog 219 #[.agg (cRc r).toArray, .agg (cRc o).toArray] W fun e w' => e = .returned (.bool (r.id == o.id)) ∧ Below W.heap.size W w') := Lib.hid (fun W => samename_any r o W)
        have HEq : Hid (∀ w, (Op.equalIn 10000 92 (.agg (cRc r).toArray) (.agg (cRc f).toArray)).run Tryz.prog w = .ok (eqRc r f) w) := Lib.hid (fun w => eqRcF r f w)
        have HB2s : Hid (∀ W, (Instr.buildSlice 85 2 #[(0, .agg (cRc f).toArray), (1, .agg (cRc o).toArray)]).run Tryz.prog W = .ok (.slice (some ⟨W.heap.size, 0, none⟩) 2 2) (W.alloc (.cells (cRc f ++ cRc o).toArray 92))) := Lib.hid (bs_rc2 f o)
        have HB1s : Hid (∀ W, (Instr.buildSlice 85 1 #[(0, .agg (cRc r).toArray)]).run Tryz.prog W = .ok (.slice (some ⟨W.heap.size, 0, none⟩) 1 1) (W.alloc (.cells (cRc r).toArray 92))) := Lib.hid (bs_rc1 r)
        have HSz : Hid (((Tryz.prog.info? 92).map (·.size) = some (cRc f).length) ∧ ((Tryz.prog.info? 92).map (·.size) = some (cRc o).length) ∧ ((Tryz.prog.info? 92).map (·.size) = some (cRc r).length)) := Lib.hid ⟨rc_size f, rc_size o, rc_size r⟩
        have HT1a : Hid (c1 = 1 → RcRow w (some ⟨bf, of, none⟩) 0 F2) := Lib.hid (fun d => by have q := row_tail HR1.out hc1; rw [if_pos d, show n1 - 1 = 0 by omega] at q; exact q)
        have HT1b : Hid (¬ c1 = 1 → RcRow w (some ⟨bf, of + 12, none⟩) (n1 - 1) F2) := Lib.hid (fun d => by have q := row_tail HR1.out hc1; rw [if_neg d] at q; exact q)
        have HT2a : Hid (c2 = 1 → RcRow w (some ⟨bo, oo, none⟩) 0 O2) := Lib.hid (fun d => by have q := row_tail HR2.out hc2; rw [if_pos d, show n2 - 1 = 0 by omega] at q; exact q)
        have HT2b : Hid (¬ c2 = 1 → RcRow w (some ⟨bo, oo + 12, none⟩) (n2 - 1) O2) := Lib.hid (fun d => by have q := row_tail HR2.out hc2; rw [if_neg d] at q; exact q)
        obtain ⟨XF, hXF⟩ : ∃ XF, XF = cRc f := ⟨_, rfl⟩
        obtain ⟨XO, hXO⟩ : ∃ XO, XO = cRc o := ⟨_, rfl⟩
        obtain ⟨XR, hXR⟩ : ∃ XR, XR = cRc r := ⟨_, rfl⟩
        have HLn : Hid (XF.length = 12 ∧ XO.length = 12 ∧ XR.length = 12 ∧ XF.toArray.all (·.oneCell') = true ∧ XO.toArray.all (·.oneCell') = true ∧ XR.toArray.all (·.oneCell') = true) := Lib.hid (by rw [hXF, hXO, hXR]; exact ⟨rfl, rfl, rfl, rc_all _, rc_all _, rc_all _⟩)
        have HXR := Lib.hid hXR
        rw [← hXF] at HS HLe HEq HB2s HSz
        rw [← hXO] at HS HLe HSm HB2s HSz
        rw [← hXR] at HLe HSm HEq HB1s HSz
        obtain ⟨er, her⟩ : ∃ er, er = eqRc r f := ⟨_, rfl⟩
        obtain ⟨sm, hsm⟩ : ∃ sm, sm = (r.id == o.id) := ⟨_, rfl⟩
        rw [← her] at HNx HEq
        rw [← hsm] at HNx HSm
        have l1 : (1 : Int) ≤ (n1 : Int) := by omega
        have l2 : (1 : Int) ≤ (n2 : Int) := by omega
        have l1' : 1 ≤ n1 := h1
        have l2' : 1 ≤ n2 := h2
        clear hXF hXO hXR her hsm hrf hro hr hrc hf0 ho0 hbf hbo HM
        go_upto_region 3 with fail
        refine mrg_r3 (bf := bf) (of := of) (bo := bo) (oo := oo) (XF := XF) (XO := XO) (fun _ _ d _ _ h => by cases d <;> exact h) h1 h2 HLn.out.1 HLn.out.2.1 HLn.out.2.2.2.1 HLn.out.2.2.2.2.1 HS.out ?_
        intro W g6 g7 k6 k7 h67 l6 l7 hb
        have K6 := Lib.hid k6
        have K7 := Lib.hid k7
        have HBa := Lib.hid (bthen HB.out hb)
        have HOa := Lib.hid (HOx.out.keep hb)
        have HOl : Hid (∀ b, u5.ownBlock = some b → w.heap.size ≤ b ∧ b < wr.heap.size) := Lib.hid HOx.out.lt
        have hlw : wr.heap.size ≤ W.heap.size := hb.size
        clear k6 k7 hb HS HOx HB
        go_wp2_with (first
          | refine wpList_load_mid rfl 92 (.tmp 6) rfl g6 0 rfl XF _ (blk_whole K6.out) Tryz.underlying92 rfl HSz.out.1 ?_
          | refine wpList_load_mid rfl 92 (.tmp 7) rfl g7 0 rfl XO _ (blk_whole K7.out) Tryz.underlying92 rfl HSz.out.2.1 ?_
          | refine wpList_bsR2 rfl 85 92 (.tmp 31) (.tmp 32) rfl XF XO rfl rfl HB2s.out ?_)
        refine (HLe.out W.heap.size _ (Blk.new W _ _)).mono ?_
        rintro e w3 ⟨rfl, hb⟩
        have hal : Below W.heap.size W w3 := bthen (alloc_below _ _) hb
        have HW3 : Hid (Blk w3 g6 92 XF.toArray ∧ Blk w3 g7 92 XO.toArray ∧ OwnX 12 cRc 92 w3 w.heap.size u5 Z ∧ Below w.heap.size w w3) := Lib.hid ⟨K6.out.keep hal, K7.out.keep hal, HOa.out.keep hal, bthen HBa.out hal⟩
        have hlw3 : wr.heap.size ≤ w3.heap.size := Nat.le_trans hlw hal.size
        clear hb hal K6 K7 HOa HBa HLe HB2s hlw
        have KN := Blk.new w3 92 (cRc zRc).toArray
        have HTh : Hid ((w3.alloc (.cells (cRc zRc).toArray 92)).there w3.heap.size 0 XR.toArray.size) := Lib.hid (blk_there KN (by show 0 + XR.length ≤ 12; rw [HLn.out.2.2.1]; exact Nat.le_refl 12))
        have HSz' : Hid ((Tryz.prog.info? 92).map (·.size) = some XR.toArray.size) := Lib.hid HSz.out.2.2
        have HW4 : Hid (Blk ((w3.alloc (.cells (cRc zRc).toArray 92)).setCells w3.heap.size 0 XR) g6 92 XF.toArray ∧ Blk ((w3.alloc (.cells (cRc zRc).toArray 92)).setCells w3.heap.size 0 XR) g7 92 XO.toArray ∧ Blk ((w3.alloc (.cells (cRc zRc).toArray 92)).setCells w3.heap.size 0 XR) w3.heap.size 92 XR.toArray ∧ OwnX 12 cRc 92 ((w3.alloc (.cells (cRc zRc).toArray 92)).setCells w3.heap.size 0 XR) w.heap.size u5 Z ∧ Below w.heap.size w ((w3.alloc (.cells (cRc zRc).toArray 92)).setCells w3.heap.size 0 XR)) := Lib.hid (by
          obtain ⟨q1, q2, q3, q4⟩ := HW3.out
          have hbel : Below w3.heap.size w3 ((w3.alloc (.cells (cRc zRc).toArray 92)).setCells w3.heap.size 0 XR) := below_setCells XR (alloc_below _ _) (Nat.le_refl _)
          refine ⟨q1.keep hbel, q2.keep hbel, ?_, q3.keep hbel, bthen q4 hbel⟩
          have := blk_setCells XR (o := 0) KN (by rw [HLn.out.2.2.1]; exact Nat.le_refl 12)
          rw [splice_all (by rw [HLn.out.2.2.1]; rfl)] at this
          exact this)
        clear KN
        go_upto_region 5 with (refine wpList_store_mid rfl 92 (.tmp 8) (.tmp 35) rfl w3.heap.size 0 XR.toArray rfl rfl HTh.out HSz'.out HLn.out.2.2.2.2.2 ?_)
        refine fin (fun W => Blk W g6 92 XF.toArray ∧ Blk W g7 92 XO.toArray ∧ Blk W w3.heap.size 92 XR.toArray ∧ OwnX 12 cRc 92 W w.heap.size u5 Z ∧ Below w.heap.size w W) HW4.out ?_
        obtain ⟨g8, hg8⟩ : ∃ g8, g8 = w3.heap.size := ⟨_, rfl⟩
        rw [← hg8] at hlw3 ⊢
        clear HW4 HTh HW3 hg8
        rintro W4 ⟨k6, k7, k8, ho, hb⟩
        have K6 := Lib.hid k6
        have K7 := Lib.hid k7
        have K8 := Lib.hid k8
        have HO4 := Lib.hid ho
        have HB4 := Lib.hid hb
        clear k6 k7 k8 ho hb
        have hZ4 : Z.length ≤ 2000 := by omega
        have hw4 : Hid (w.heap.size ≤ W4.heap.size) := Lib.hid HB4.out.size
        go_wp2_with (first
          | refine wpList_load_mid rfl 92 (.tmp 8) rfl g8 0 rfl XR _ (blk_whole K8.out) Tryz.underlying92 rfl HSz.out.2.2 ?_
          | refine wpList_bsR1 rfl 85 92 (.tmp 38) rfl XR rfl HB1s.out ?_
          | (at_builtin; refine wpList_pushX rfl (.tmp 37) (.tmp 39) 85 96 (.agg (cRc zRc).toArray) rfl Tryz.underlying85 zRc_info rfl (by decide) (by decide) cRc_len r (cRc_one r) rfl (HO4.out.keep (alloc_below _ _)) W4.heap.size 1 rfl (by rw [← HXR.out]; exact blk_whole (Blk.new W4 _ _)) hZ4 (Nat.le_trans hw4.out (by simp)) ?_))
        intro v' W5 k1 k2 k3
        have HW5 : Hid (Blk W5 g6 92 XF.toArray ∧ Blk W5 g7 92 XO.toArray ∧ Blk W5 g8 92 XR.toArray ∧ OwnX 12 cRc 92 W5 w.heap.size v' (Z ++ [r]) ∧ Below w.heap.size w W5) := Lib.hid (by
          have hal : Below W4.heap.size W4 (W4.alloc (.cells XR.toArray 92)) := alloc_below _ _
          have q6 := K6.out.keep hal
          have q7 := K7.out.keep hal
          have q8 := K8.out.keep hal
          refine ⟨q6.same (k2.block _ q6.lt (fun e => ?_)), q7.same (k2.block _ q7.lt (fun e => ?_)), q8.same (k2.block _ q8.lt (fun e => ?_)), k1, grown_below2 (bthen HB4.out hal) k2 (fun b e => (HO4.out.lt b e).1)⟩
          · have := (HOl.out _ e.symm).2; omega
          · have := (HOl.out _ e.symm).2; omega
          · have := (HOl.out _ e.symm).2; omega)
        clear k1 k2 k3 K6 K7 K8 HO4 HB4
        have heq := HEq.out
        have hlz : (Z ++ [r]).length = Z.length + 1 := by rw [List.length_append]; rfl
        rcases HNx.out with ⟨e1, e2, hM⟩ | ⟨e1, e2, hM⟩ | ⟨e1, e2, hM⟩
        · have HM2 := Lib.hid hM
          rw [e1] at heq
          rw [e2] at HSm
          clear hM HNx e1 e2 HEq
          by_cases d1 : c1 = 1
          · have hT1 := Lib.hid (HT1a.out d1)
            subst d1
            by_cases d2 : c2 = 1
            · have hT2 := Lib.hid (HT2a.out d2)
              subst d2
              go_wp2_with (first
                | refine wpList_load_mid rfl 92 (.tmp 8) rfl g8 0 rfl XR _ (blk_whole HW5.out.2.2.1) Tryz.underlying92 rfl HSz.out.2.2 ?_
                | refine wpList_load_mid rfl 92 (.tmp 6) rfl g6 0 rfl XF _ (blk_whole HW5.out.1) Tryz.underlying92 rfl HSz.out.1 ?_
                | refine wpList_load_mid rfl 92 (.tmp 7) rfl g7 0 rfl XO _ (blk_whole HW5.out.2.1) Tryz.underlying92 rfl HSz.out.2.1 ?_)
              refine (HSm.out _).mono ?_
              rintro e w6 ⟨rfl, hb⟩
              have HO6 := Lib.hid (HW5.out.2.2.2.1.keep hb)
              have HB6 := Lib.hid (bthen HW5.out.2.2.2.2 hb)
              clear hb HW5
              go_wp2
              go_roundw
              case rel => exact ⟨_, _, _, F2, _, _, _, O2, Z ++ [r], rfl, rfl, hT1.out, hT2.out, by omega, by omega, by omega, by omega, by omega, HO6.out, HM2.out, HB6.out⟩
              case measure => simp [slenR] <;> omega
            · have hT2 := Lib.hid (HT2b.out d2)
              skip
              go_wp2_with (first
                | refine wpList_load_mid rfl 92 (.tmp 8) rfl g8 0 rfl XR _ (blk_whole HW5.out.2.2.1) Tryz.underlying92 rfl HSz.out.2.2 ?_
                | refine wpList_load_mid rfl 92 (.tmp 6) rfl g6 0 rfl XF _ (blk_whole HW5.out.1) Tryz.underlying92 rfl HSz.out.1 ?_
                | refine wpList_load_mid rfl 92 (.tmp 7) rfl g7 0 rfl XO _ (blk_whole HW5.out.2.1) Tryz.underlying92 rfl HSz.out.2.1 ?_)
              refine (HSm.out _).mono ?_
              rintro e w6 ⟨rfl, hb⟩
              have HO6 := Lib.hid (HW5.out.2.2.2.1.keep hb)
              have HB6 := Lib.hid (bthen HW5.out.2.2.2.2 hb)
              clear hb HW5
              go_wp2
              go_roundw
              case rel => exact ⟨_, _, _, F2, _, _, _, O2, Z ++ [r], rfl, rfl, hT1.out, hT2.out, by omega, by omega, by omega, by omega, by omega, HO6.out, HM2.out, HB6.out⟩
              case measure => simp [slenR] <;> omega
          · have hT1 := Lib.hid (HT1b.out d1)
            skip
            by_cases d2 : c2 = 1
            · have hT2 := Lib.hid (HT2a.out d2)
              subst d2
              go_wp2_with (first
                | refine wpList_load_mid rfl 92 (.tmp 8) rfl g8 0 rfl XR _ (blk_whole HW5.out.2.2.1) Tryz.underlying92 rfl HSz.out.2.2 ?_
                | refine wpList_load_mid rfl 92 (.tmp 6) rfl g6 0 rfl XF _ (blk_whole HW5.out.1) Tryz.underlying92 rfl HSz.out.1 ?_
                | refine wpList_load_mid rfl 92 (.tmp 7) rfl g7 0 rfl XO _ (blk_whole HW5.out.2.1) Tryz.underlying92 rfl HSz.out.2.1 ?_)
              refine (HSm.out _).mono ?_
              rintro e w6 ⟨rfl, hb⟩
              have HO6 := Lib.hid (HW5.out.2.2.2.1.keep hb)
              have HB6 := Lib.hid (bthen HW5.out.2.2.2.2 hb)
              clear hb HW5
              go_wp2
              go_roundw
              case rel => exact ⟨_, _, _, F2, _, _, _, O2, Z ++ [r], rfl, rfl, hT1.out, hT2.out, by omega, by omega, by omega, by omega, by omega, HO6.out, HM2.out, HB6.out⟩
              case measure => simp [slenR] <;> omega
            · have hT2 := Lib.hid (HT2b.out d2)
              skip
              go_wp2_with (first
                | refine wpList_load_mid rfl 92 (.tmp 8) rfl g8 0 rfl XR _ (blk_whole HW5.out.2.2.1) Tryz.underlying92 rfl HSz.out.2.2 ?_
                | refine wpList_load_mid rfl 92 (.tmp 6) rfl g6 0 rfl XF _ (blk_whole HW5.out.1) Tryz.underlying92 rfl HSz.out.1 ?_
                | refine wpList_load_mid rfl 92 (.tmp 7) rfl g7 0 rfl XO _ (blk_whole HW5.out.2.1) Tryz.underlying92 rfl HSz.out.2.1 ?_)
              refine (HSm.out _).mono ?_
              rintro e w6 ⟨rfl, hb⟩
              have HO6 := Lib.hid (HW5.out.2.2.2.1.keep hb)
              have HB6 := Lib.hid (bthen HW5.out.2.2.2.2 hb)
              clear hb HW5
              go_wp2
              go_roundw
              case rel => exact ⟨_, _, _, F2, _, _, _, O2, Z ++ [r], rfl, rfl, hT1.out, hT2.out, by omega, by omega, by omega, by omega, by omega, HO6.out, HM2.out, HB6.out⟩
              case measure => simp [slenR] <;> omega
        · have HM2 := Lib.hid hM
          rw [e1] at heq
          rw [e2] at HSm
          clear hM HNx e1 e2 HEq
          by_cases d1 : c1 = 1
          · have hT := Lib.hid (HT1a.out d1)
            subst d1
            go_wp2_with (first
              | refine wpList_load_mid rfl 92 (.tmp 8) rfl g8 0 rfl XR _ (blk_whole HW5.out.2.2.1) Tryz.underlying92 rfl HSz.out.2.2 ?_
              | refine wpList_load_mid rfl 92 (.tmp 6) rfl g6 0 rfl XF _ (blk_whole HW5.out.1) Tryz.underlying92 rfl HSz.out.1 ?_
              | refine wpList_load_mid rfl 92 (.tmp 7) rfl g7 0 rfl XO _ (blk_whole HW5.out.2.1) Tryz.underlying92 rfl HSz.out.2.1 ?_)
            refine (HSm.out _).mono ?_
            rintro e w6 ⟨rfl, hb⟩
            have HO6 := Lib.hid (HW5.out.2.2.2.1.keep hb)
            have HB6 := Lib.hid (bthen HW5.out.2.2.2.2 hb)
            clear hb HW5
            go_wp2
            go_roundw
            case rel => exact ⟨_, _, _, F2, _, _, _, o :: O2, Z ++ [r], rfl, rfl, hT.out, HR2.out, by omega, by omega, by omega, by omega, by omega, HO6.out, HM2.out, HB6.out⟩
            case measure => simp [slenR] <;> omega
          · have hT := Lib.hid (HT1b.out d1)
            skip
            go_wp2_with (first
              | refine wpList_load_mid rfl 92 (.tmp 8) rfl g8 0 rfl XR _ (blk_whole HW5.out.2.2.1) Tryz.underlying92 rfl HSz.out.2.2 ?_
              | refine wpList_load_mid rfl 92 (.tmp 6) rfl g6 0 rfl XF _ (blk_whole HW5.out.1) Tryz.underlying92 rfl HSz.out.1 ?_
              | refine wpList_load_mid rfl 92 (.tmp 7) rfl g7 0 rfl XO _ (blk_whole HW5.out.2.1) Tryz.underlying92 rfl HSz.out.2.1 ?_)
            refine (HSm.out _).mono ?_
            rintro e w6 ⟨rfl, hb⟩
            have HO6 := Lib.hid (HW5.out.2.2.2.1.keep hb)
            have HB6 := Lib.hid (bthen HW5.out.2.2.2.2 hb)
            clear hb HW5
            go_wp2
            go_roundw
            case rel => exact ⟨_, _, _, F2, _, _, _, o :: O2, Z ++ [r], rfl, rfl, hT.out, HR2.out, by omega, by omega, by omega, by omega, by omega, HO6.out, HM2.out, HB6.out⟩
            case measure => simp [slenR] <;> omega
        · have HM2 := Lib.hid hM
          rw [e1] at heq
          rw [e2] at HSm
          clear hM HNx e1 e2 HEq
          by_cases d2 : c2 = 1
          · have hT := Lib.hid (HT2a.out d2)
            subst d2
            go_wp2_with (first
              | refine wpList_load_mid rfl 92 (.tmp 8) rfl g8 0 rfl XR _ (blk_whole HW5.out.2.2.1) Tryz.underlying92 rfl HSz.out.2.2 ?_
              | refine wpList_load_mid rfl 92 (.tmp 6) rfl g6 0 rfl XF _ (blk_whole HW5.out.1) Tryz.underlying92 rfl HSz.out.1 ?_
              | refine wpList_load_mid rfl 92 (.tmp 7) rfl g7 0 rfl XO _ (blk_whole HW5.out.2.1) Tryz.underlying92 rfl HSz.out.2.1 ?_)
            refine (HSm.out _).mono ?_
            rintro e w6 ⟨rfl, hb⟩
            have HO6 := Lib.hid (HW5.out.2.2.2.1.keep hb)
            have HB6 := Lib.hid (bthen HW5.out.2.2.2.2 hb)
            clear hb HW5
            go_wp2
            go_roundw
            case rel => exact ⟨_, _, _, f :: F2, _, _, _, O2, Z ++ [r], rfl, rfl, HR1.out, hT.out, by omega, by omega, by omega, by omega, by omega, HO6.out, HM2.out, HB6.out⟩
            case measure => simp [slenR] <;> omega
          · have hT := Lib.hid (HT2b.out d2)
            skip
            go_wp2_with (first
              | refine wpList_load_mid rfl 92 (.tmp 8) rfl g8 0 rfl XR _ (blk_whole HW5.out.2.2.1) Tryz.underlying92 rfl HSz.out.2.2 ?_
              | refine wpList_load_mid rfl 92 (.tmp 6) rfl g6 0 rfl XF _ (blk_whole HW5.out.1) Tryz.underlying92 rfl HSz.out.1 ?_
              | refine wpList_load_mid rfl 92 (.tmp 7) rfl g7 0 rfl XO _ (blk_whole HW5.out.2.1) Tryz.underlying92 rfl HSz.out.2.1 ?_)
            refine (HSm.out _).mono ?_
            rintro e w6 ⟨rfl, hb⟩
            have HO6 := Lib.hid (HW5.out.2.2.2.1.keep hb)
            have HB6 := Lib.hid (bthen HW5.out.2.2.2.2 hb)
            clear hb HW5
            go_wp2
            go_roundw
            case rel => exact ⟨_, _, _, f :: F2, _, _, _, O2, Z ++ [r], rfl, rfl, HR1.out, hT.out, by omega, by omega, by omega, by omega, by omega, HO6.out, HM2.out, HB6.out⟩
            case measure => simp [slenR] <;> omega
      · skip
        have HR1w := Lib.hid (HR1.out.keep HB.out)
        have HR2w := Lib.hid (HR2.out.keep HB.out)
        have hZl : Z.length + n1 ≤ 4000000 := by omega
        go_wp2_with (first
          | (at_builtin; refine wpList_appendR rfl (.tmp 51) (.tmp 52) 85 96 (.agg (cRc zRc).toArray) rfl Tryz.underlying85 zRc_info rfl (by decide) (by decide) cRc_len cRc_one rfl HOx.out a1 n1 c1 rfl HR1w.out hZl hwr.out ?_))
        intro v' W2 k1 k2 k3
        have hZ2 : (Z ++ F').length + n2 ≤ 4000000 := by rw [List.length_append, HR1.out.1]; omega
        have HB2 : Hid (Below w.heap.size w W2) := Lib.hid (grown_below2 HB.out k2 (fun b e => (HOx.out.lt b e).1))
        have HK1 := Lib.hid k1
        have HR2x := Lib.hid (HR2.out.keep HB2.out)
        have hw2 : Hid (w.heap.size ≤ W2.heap.size) := Lib.hid HB2.out.size
        clear k1 k2 k3
        go_wp2_with (first
          | (at_builtin; refine wpList_appendR rfl (.tmp 53) (.tmp 54) 85 96 (.agg (cRc zRc).toArray) rfl Tryz.underlying85 zRc_info rfl (by decide) (by decide) cRc_len cRc_one rfl HK1.out a2 n2 c2 rfl HR2x.out hZ2 hw2.out ?_))
        intro v2 W3 k1 k2 k3
        have HB3 : Hid (Below w.heap.size w W3) := Lib.hid (grown_below2 HB2.out k2 (fun b e => (HK1.out.lt b e).1))
        have HK2 := Lib.hid k1
        clear k1 k2 k3
        go_wp2
        go_ret
        exact HEnd.out (by omega) _ _ _ (by simp only [List.append_assoc]) HK2.out HB3.out
    · skip
      have HR1w := Lib.hid (HR1.out.keep HB.out)
      have HR2w := Lib.hid (HR2.out.keep HB.out)
      have hZl : Z.length + n1 ≤ 4000000 := by omega
      go_wp2_with (first
        | (at_builtin; refine wpList_appendR rfl (.tmp 51) (.tmp 52) 85 96 (.agg (cRc zRc).toArray) rfl Tryz.underlying85 zRc_info rfl (by decide) (by decide) cRc_len cRc_one rfl HOx.out a1 n1 c1 rfl HR1w.out hZl hwr.out ?_))
      intro v' W2 k1 k2 k3
      have hZ2 : (Z ++ F').length + n2 ≤ 4000000 := by rw [List.length_append, HR1.out.1]; omega
      have HB2 : Hid (Below w.heap.size w W2) := Lib.hid (grown_below2 HB.out k2 (fun b e => (HOx.out.lt b e).1))
      have HK1 := Lib.hid k1
      have HR2x := Lib.hid (HR2.out.keep HB2.out)
      have hw2 : Hid (w.heap.size ≤ W2.heap.size) := Lib.hid HB2.out.size
      clear k1 k2 k3
      go_wp2_with (first
        | (at_builtin; refine wpList_appendR rfl (.tmp 53) (.tmp 54) 85 96 (.agg (cRc zRc).toArray) rfl Tryz.underlying85 zRc_info rfl (by decide) (by decide) cRc_len cRc_one rfl HK1.out a2 n2 c2 rfl HR2x.out hZ2 hw2.out ?_))
      intro v2 W3 k1 k2 k3
      have HB3 : Hid (Below w.heap.size w W3) := Lib.hid (grown_below2 HB2.out k2 (fun b e => (HK1.out.lt b e).1))
      have HK2 := Lib.hid k1
      clear k1 k2 k3
      go_wp2
      go_ret
      exact HEnd.out (by omega) _ _ _ (by simp only [List.append_assoc]) HK2.out HB3.out
def InsAns (w w' : World) (nF nO : Nat) (v : Value) (L X R : List Rc) : Prop := OwnX 12 cRc 92 w' w.heap.size v R ∧ R.length ≤ nF + nO ∧ Rise R ∧ ∀ k, look k R = (look k X.reverse).or (look k L)
def remL (X : List Rc) (zs : List Int) : List Rc := X.filter (fun r => !decide (r.id ∈ zs))
theorem zv_unit (w : World) : (zeroValue 220).run Tryz.prog w = .ok (.agg #[]) w := by kernel_rfl
def kU : MK Unit := mkA 199 220 (fun _ => .agg #[]) Tryz.underlying199 zv_unit (fun _ => ⟨[], rfl, fun u h => by cases h⟩)
def inU (l : List Int) (y : Int) : Option Unit := if y ∈ l then some () else none
theorem inU_some (l : List Int) (y : Int) : (inU l y).isSome = decide (y ∈ l) := by
  unfold inU
  by_cases h : y ∈ l <;> simp [h]
theorem inU_put (l : List Int) (x : Int) : upm (inU l) x (some ()) = inU (l ++ [x]) := funext fun y => by
  unfold upm inU
  by_cases e : y = x
  · rw [if_pos e, if_pos (List.mem_append.2 (Or.inr (by rw [e]; exact List.mem_singleton_self _)))]
  · rw [if_neg e]
    by_cases m : y ∈ l
    · rw [if_pos m, if_pos (List.mem_append.2 (Or.inl m))]
    · rw [if_neg m, if_neg (fun h => by rcases List.mem_append.1 h with h | h; exact m h; exact e (List.mem_singleton.1 h))]
theorem rem_step {X : List Rc} {zs : List Int} {j : Nat} {x : Rc} (h : X[j]? = some x) : remL (X.take (j + 1)) zs = remL (X.take j) zs ++ (if x.id ∈ zs then [] else [x]) := by
  unfold remL
  rw [List.take_add_one, h, List.filter_append]
  by_cases q : x.id ∈ zs <;> simp [q]
set_option maxHeartbeats 16000000 in
set_option maxRecDepth 100000 in
theorem remove_any (av : Option Addr) (n cap : Nat) (X : List Rc) (ai : Option Addr) (ni ci : Nat) (zs : List Int) (w : World) (row : RcRow w av n X) (ri : Row w ai ni zs) (hn : n ≤ 2000) (hni : ni ≤ 2000) (hX : ∀ x ∈ X, Rg x.id) (hz : Rgs zs) :
    Calls Tryz.prog 77 #[.slice av n cap, .slice ai ni ci] w fun e w' => ∃ v, e = .returned v ∧ OwnX 12 cRc 92 w' w.heap.size v (remL X zs) ∧ Below w.heap.size w w' := by
  have hmm := @run_makeMap Tryz.prog
  have hbig := ri.2.1
  have hbig2 := row.2.1
  have HLz := Lib.hid ri.1
  have HLn := Lib.hid row.1
  have HRi := Lib.hid ri
  have HRow := Lib.hid row
  have HRg := Lib.hid (And.intro hX hz)
  have HM0 : Hid (MF kU (w.alloc (.map #[] 0)) w.heap.size (inU []) ∧ Below w.heap.size w (w.alloc (.map #[] 0))) := Lib.hid ⟨MF.new kU w, alloc_below _ _⟩
  have HZs : Hid (zs.take ni = zs) := Lib.hid (List.take_of_length_le (by rw [HLz.out]; exact Nat.le_refl _))
  clear row ri hX hz
  go_enter Tryz.func77, Tryz.ntmps77
  go_wp2
  go_loopw [7, 16] (fun _ v16 wr => ∃ j : Nat, v16 = .int .i64 j ∧ j ≤ ni ∧ MF kU wr w.heap.size (inU (zs.take j)) ∧ Below w.heap.size w wr) (fun _ v16 _ => ni - (ivl v16).toNat)
  case atStart => exact ⟨0, rfl, by omega, HM0.out.1, HM0.out.2⟩
  case round =>
    clear HM0
    obtain ⟨j, rfl, hj, hm, hb⟩ := hrel
    have HM := Lib.hid hm
    have HB := Lib.hid hb
    clear hm hb
    by_cases hlt : j < ni
    · have hlz := HLz.out
      rcases (row_keep HRi.out HB.out).2.2 with h0 | ⟨b, off, ha, hcell⟩
      · omega
      have cx : wr.cell? ⟨b, off + j, none⟩ = some (.int .i64 (zs.getD j 0)) := hcell j hlt
      have hget : zs[j]? = some (zs.getD j 0) := by rw [List.getElem?_eq_getElem (by omega), List.getD, List.getElem?_eq_getElem (by omega)]; rfl
      obtain ⟨x, hx⟩ : ∃ x, x = zs.getD j 0 := ⟨_, rfl⟩
      rw [← hx] at cx hget
      have hrg : Rg x := HRg.out.2 x (List.mem_of_getElem? hget)
      have hpm : upm (inU (zs.take j)) x (some ()) = inU (zs.take (j + 1)) := by rw [inU_put, List.take_add_one, hget]; rfl
      obtain ⟨w2, hrun, hm2, hg2⟩ := HM.out.put hrg () (zs.take (j + 1)) (fun y hy => by
        rw [hpm, inU_some] at hy
        exact of_decide_eq_true hy) (by rw [List.length_take]; omega)
      have HM2 : Hid (MF kU w2 w.heap.size (inU (zs.take (j + 1))) ∧ Below w.heap.size w w2) := Lib.hid ⟨hpm ▸ hm2, grown_below2 HB.out hg2 (fun b e => by injection e with e; omega)⟩
      have hrun' : (Instr.mapUpdate 199 (.map (some w.heap.size)) (.int .i64 x) (.agg #[])).run Tryz.prog wr = .ok () w2 := hrun
      have j0 : (0 : Int) ≤ (j : Int) := by omega
      have j1 : (j : Int) < (ni : Int) := by omega
      subst ha
      clear hx hget hrg hpm hrun hm2 hg2 hcell hlz HM HB
      go_wp2
      go_roundw
      case rel => exact ⟨j + 1, by go_num, by omega, HM2.out.1, HM2.out.2⟩
      case measure => simp [ivl] <;> omega
    · obtain rfl : j = ni := by omega
      have j1 : ¬ (j : Int) < (j : Int) := by omega
      have HMz : Hid (MF kU wr w.heap.size (inU zs)) := Lib.hid (HZs.out ▸ HM.out)
      have hws : w.heap.size < wr.heap.size := HM.out.lt
      clear HM
      go_wp2
      go_loopw [8, 10, 11, 12, 26] (fun v8 _ _ _ v26 wr => ∃ k : Nat, v26 = .int .i64 k ∧ k ≤ n ∧ OwnX 12 cRc 92 wr (w.heap.size + 1) v8 (remL (X.take k) zs) ∧ MF kU wr w.heap.size (inU zs) ∧ Below w.heap.size w wr) (fun _ _ _ _ v26 _ => n - (ivl v26).toNat)
      case atStart => exact ⟨0, rfl, by omega, OwnX.nil _ _ _ _ _, HMz.out, HB.out⟩
      case round =>
        clear HMz HB hws
        obtain ⟨k, rfl, hk, ho, hm, hb⟩ := hrel
        have HO := Lib.hid ho
        have HM := Lib.hid hm
        have HB := Lib.hid hb
        have hws : w.heap.size < wr.heap.size := hm.lt
        clear ho hm hb
        by_cases hlt2 : k < n
        · obtain ⟨b, off, x, rfl, hbl, hx, hr⟩ := HRow.out.at_ hlt2
          have hrg : Rg x.id := HRg.out.1 x (List.mem_of_getElem? hx)
          have HStp := Lib.hid (rem_step (zs := zs) hx)
          have HL0 : Hid (wr.rangeAt b (off + k * 12) (cRc x)) := Lib.hid (range_same hr (HB.out.block b hbl))
          have KN := Blk.new wr 92 (cRc zRc).toArray
          have HW1 : Hid (Blk ((wr.alloc (.cells (cRc zRc).toArray 92)).setCells wr.heap.size 0 (cRc x)) wr.heap.size 92 (cRc x).toArray ∧ OwnX 12 cRc 92 ((wr.alloc (.cells (cRc zRc).toArray 92)).setCells wr.heap.size 0 (cRc x)) (w.heap.size + 1) u8 (remL (X.take k) zs) ∧ MF kU ((wr.alloc (.cells (cRc zRc).toArray 92)).setCells wr.heap.size 0 (cRc x)) w.heap.size (inU zs) ∧ Below w.heap.size w ((wr.alloc (.cells (cRc zRc).toArray 92)).setCells wr.heap.size 0 (cRc x))) := Lib.hid (by
            have hbel : Below wr.heap.size wr ((wr.alloc (.cells (cRc zRc).toArray 92)).setCells wr.heap.size 0 (cRc x)) := below_setCells _ (alloc_below _ _) (Nat.le_refl _)
            refine ⟨?_, HO.out.keep hbel, HM.out.keep hbel, bthen HB.out hbel⟩
            have := blk_setCells (cRc x) (o := 0) KN (Nat.le_refl 12)
            rw [splice_rc] at this
            exact this)
          have HTh0 : Hid ((wr.alloc (.cells (cRc zRc).toArray 92)).there wr.heap.size 0 12) := Lib.hid (blk_there KN (Nat.le_refl 12))
          have HSz := Lib.hid (rc_size x)
          have HOx := Lib.hid (rc_all x)
          have HB1s : Hid (∀ W, (Instr.buildSlice 85 1 #[(0, .agg (cRc x).toArray)]).run Tryz.prog W = .ok (.slice (some ⟨W.heap.size, 0, none⟩) 1 1) (W.alloc (.cells (cRc x).toArray 92))) := Lib.hid (bs_rc1 x)
          have HCi : Hid (∀ W g, Blk W g 92 (cRc x).toArray → W.cell? ⟨g, 0, none⟩ = some (.int .i64 x.id)) := Lib.hid (fun W g q => q.cell 0)
          obtain ⟨XX, hXX⟩ : ∃ XX, XX = cRc x := ⟨_, rfl⟩
          have HXe := Lib.hid hXX
          have HLx : Hid (XX.length = 12) := Lib.hid (by rw [hXX]; rfl)
          rw [← hXX] at HL0 HW1 HSz HOx HB1s HCi
          obtain ⟨y, hy⟩ : ∃ y, y = x.id := ⟨_, rfl⟩
          rw [← hy] at HCi HStp hrg
          have HSz' : Hid ((Tryz.prog.info? 92).map (·.size) = some XX.toArray.size) := HSz
          have HTh : Hid ((wr.alloc (.cells (cRc zRc).toArray 92)).there wr.heap.size 0 XX.toArray.size) := Lib.hid (by show World.there _ _ 0 XX.length; rw [HLx.out]; exact HTh0.out)
          have j0 : (0 : Int) ≤ (k : Int) := by omega
          have j1 : (k : Int) < (n : Int) := by omega
          have HRgy := Lib.hid hrg
          clear KN HTh0 hXX hy hx hr hbl hrg HO HM HB
          go_upto_region 11 with (first
            | refine wpList_load_mid rfl 92 (.tmp 28) rfl b (off + k * 12) rfl XX _ HL0.out Tryz.underlying92 rfl HSz.out ?_
            | refine wpList_store_mid rfl 92 (.tmp 10) (.tmp 29) rfl wr.heap.size 0 XX.toArray rfl rfl HTh.out HSz'.out HOx.out ?_)
          refine fin (fun W => Blk W wr.heap.size 92 XX.toArray ∧ OwnX 12 cRc 92 W (w.heap.size + 1) u8 (remL (X.take k) zs) ∧ MF kU W w.heap.size (inU zs) ∧ Below w.heap.size w W) HW1.out ?_
          obtain ⟨g10, hg⟩ : ∃ g10, g10 = wr.heap.size := ⟨_, rfl⟩
          rw [← hg] at hws ⊢
          clear HW1 HTh HL0 hg
          rintro W ⟨kx, ho, hm, hb⟩
          have hcell : W.cell? ⟨g10, 0, none⟩ = some (.int .i64 y) := HCi.out _ _ kx
          have hlook : (Instr.lookup 199 (.map (some w.heap.size)) (.int .i64 y) true).run Tryz.prog W = .ok (.tuple #[.agg #[], .bool (decide (y ∈ zs))]) W := by
            have := hm.look HRgy.out
            rw [inU_some] at this
            exact this
          have HK : Hid (∀ W', Below W.heap.size W W' → Blk W' g10 92 XX.toArray ∧ OwnX 12 cRc 92 W' (w.heap.size + 1) u8 (remL (X.take k) zs) ∧ MF kU W' w.heap.size (inU zs) ∧ Below w.heap.size w W') := Lib.hid (fun W' q => ⟨kx.keep q, ho.keep q, hm.keep q, bthen hb q⟩)
          have hgl := kx.lt
          clear kx ho hm hb
          obtain ⟨bb, hbb⟩ : ∃ bb, bb = decide (y ∈ zs) := ⟨_, rfl⟩
          rw [← hbb] at hlook
          have HBb := Lib.hid hbb
          clear hbb
          go_upto_region 12 with fail
          refine fin (fun W' => Blk W' g10 92 XX.toArray ∧ OwnX 12 cRc 92 W' (w.heap.size + 1) u8 (remL (X.take k) zs) ∧ MF kU W' w.heap.size (inU zs) ∧ Below w.heap.size w W') (HK.out _ (alloc_below _ _)) ?_
          clear HK hlook hcell hgl
          rintro W2 ⟨kx, ho, hm, hb⟩
          have KX := Lib.hid kx
          have HO := Lib.hid ho
          have HM := Lib.hid hm
          have HB := Lib.hid hb
          have hsW : w.heap.size + 1 ≤ W2.heap.size := hm.lt
          clear kx ho hm hb
          cases bb
          · have hne : ¬ y ∈ zs := of_decide_eq_false HBb.out.symm
            rw [if_neg hne] at HStp
            have hpl : (remL (X.take k) zs).length ≤ 2000 := by
              have q1 := List.length_filter_le (fun r : Rc => !decide (r.id ∈ zs)) (X.take k)
              rw [List.length_take] at q1
              unfold remL
              omega
            clear HBb hne
            go_wp2_with (first
              | refine wpList_load_mid rfl 92 (.tmp 10) rfl g10 0 rfl XX _ (blk_whole KX.out) Tryz.underlying92 rfl HSz.out ?_
              | refine wpList_bsR1 rfl 85 92 (.tmp 40) rfl XX rfl HB1s.out ?_
              | (at_builtin; refine wpList_pushX rfl (.tmp 39) (.tmp 41) 85 96 (.agg (cRc zRc).toArray) rfl Tryz.underlying85 zRc_info rfl (by decide) (by decide) cRc_len x (cRc_one x) rfl (HO.out.keep (alloc_below _ _)) W2.heap.size 1 rfl (by rw [← HXe.out]; exact blk_whole (Blk.new W2 _ _)) hpl (Nat.le_trans hsW (by simp)) ?_))
            intro v' W3 k1 k2 k3
            have K : Hid (OwnX 12 cRc 92 W3 (w.heap.size + 1) v' (remL (X.take (k + 1)) zs) ∧ MF kU W3 w.heap.size (inU zs) ∧ Below w.heap.size w W3) := Lib.hid (by
              have hal : Below W2.heap.size W2 (W2.alloc (.cells XX.toArray 92)) := alloc_below _ _
              have q := HM.out.keep hal
              exact ⟨by rw [HStp.out]; exact k1, q.same (k2.block _ q.lt (fun e => by have := (HO.out.lt _ e.symm).1; omega)), grown_below2 (bthen HB.out hal) k2 (fun b e => by have := (HO.out.lt b e).1; omega)⟩)
            clear k1 k2 k3 HO HM HB KX
            go_wp2
            go_roundw
            case rel => exact ⟨k + 1, by go_num, by omega, K.out.1, K.out.2.1, K.out.2.2⟩
            case measure => simp [ivl] <;> omega
          · have hin : y ∈ zs := of_decide_eq_true HBb.out.symm
            rw [if_pos hin, List.append_nil] at HStp
            clear HBb hin
            go_wp2
            go_roundw
            case rel => exact ⟨k + 1, by go_num, by omega, by rw [HStp.out]; exact HO.out, HM.out, HB.out⟩
            case measure => simp [ivl] <;> omega
        · obtain rfl : k = n := by omega
          have j2 : ¬ (k : Int) < (k : Int) := by omega
          have HOz : Hid (OwnX 12 cRc 92 wr w.heap.size u8 (remL X zs)) := Lib.hid (by
            have q := HO.out
            rw [List.take_of_length_le (by rw [HLn.out]; exact Nat.le_refl _)] at q
            exact q.low (by omega))
          go_wp2
          go_ret
          exact ⟨u8, rfl, HOz.out, HB.out⟩
section
variable {α : Type} {k : Nat} {c : α → List Value} {t : TypeId} {w w' : World} {base : Nat} {v : Value} {X : List α}
end
end Go.Proofs.YthhfcedhbfandaaGreat
