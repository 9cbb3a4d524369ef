/-
  The library's changes of two rows about: each a region that draws its order, for any frame.
-/
import Derived.Test.YthhfcedhbfandaaGreatMS21
import Derived.Deep.RegionHeld3
namespace Go.Proofs.YthhfcedhbfandaaGreat
open Go.RowKit

set_option maxHeartbeats 8000000 in
set_option maxRecDepth 100000 in
theorem swap_ins {u1 u2 u3 u4 u5 u6 u7 u8 u10 u11 u12 u13 u14 u15 u16 u17 u18 u19 u20 u21 u22 u23 u24 u25 u26 u27 u28 u29 u30 u31 u32 u33 u34 u35 u36 u37 u38 u39 u40 u41 u42 u43 u44 u45 u46 u47 u48 u49 u50 u51 u52 : Value} {Q : Exit → Go.Act → World → Prop} {g n cap : Nat} {p q : Nat} {Xp Xq : List Value}  {w : World}
    (hQ : ∀ c a d v w, Q (.panic c) (a.put d v) w → Q (.panic c) a w)
    (hw : IntKind.i64.wrap ((p : Int) - 1) = (q : Int))
    (hp0 : (0 : Int) ≤ (p : Int)) (hp1 : (p : Int) < (n : Int)) (hq0 : (0 : Int) ≤ (q : Int)) (hq1 : (q : Int) < (n : Int))
    (hXp : Xp.length = 12) (hXq : Xq.length = 12) (hOp : Xp.toArray.all (·.oneCell') = true) (hOq : Xq.toArray.all (·.oneCell') = true)
    (hrp : w.drew.rangeAt g (p * 12) Xp) (hrq : w.drew.rangeAt g (q * 12) Xq) (htp : w.drew.there g (p * 12) 12) (htq : w.drew.there g (q * 12) 12)
    (hk : ∀ W', W' = ((w.drew.setCells g (p * 12) Xq).setCells g (q * 12) Xp) → Q .normal { tmps := #[.slice (some ⟨g, 0, none⟩) n cap, u1, u2, u3, u4, u5, u6, u7, u8, .int .i64 (p : Int), u10, u11, u12, u13, u14, u15, u16, u17, u18, u19, u20, u21, u22, u23, u24, u25, u26, u27, u28, u29, u30, u31, u32, u33, u34, u35, u36, .slice (some ⟨g, 0, none⟩) n cap, .int .i64 (p : Int), .slice (some ⟨g, 0, none⟩) n cap, .int .i64 (p : Int), .int .i64 (q : Int), .slice (some ⟨g, 0, none⟩) n cap, .int .i64 (p : Int), .int .i64 (q : Int), .pointer (some ⟨g, q * 12, none⟩), .agg Xq.toArray, .slice (some ⟨g, 0, none⟩) n cap, .int .i64 (p : Int), .pointer (some ⟨g, p * 12, none⟩), .agg Xp.toArray, .pointer (some ⟨g, p * 12, none⟩), .pointer (some ⟨g, q * 12, none⟩)], defers := [] } W') :
    (Code.region 6 #[{ dst := some 37, op := Op.move (Operand.tmp 0), type := 85, pos := "zsortanyfunc.go:13", after := #[], guard := none }, { dst := some 38, op := Op.move (Operand.tmp 9), type := 3, pos := "zsortanyfunc.go:13", after := #[], guard := none }, { dst := some 39, op := Op.move (Operand.tmp 0), type := 85, pos := "zsortanyfunc.go:13", after := #[{ on := 15, ground := Ground.gcOnly Departure.lateStores }], guard := none }, { dst := some 40, op := Op.move (Operand.tmp 9), type := 3, pos := "zsortanyfunc.go:13", after := #[{ on := 15, ground := Ground.gcOnly Departure.lateStores }], guard := none }, { dst := some 41, op := Op.binOp BinOp.sub 3 (Operand.tmp 40) (Operand.const (Value.int IntKind.i64 1)) 3, type := 3, pos := "zsortanyfunc.go:13", after := #[{ on := 3, ground := Ground.data }, { on := 15, ground := Ground.gcOnly Departure.lateStores }], guard := none }, { dst := some 42, op := Op.move (Operand.tmp 0), type := 85, pos := "zsortanyfunc.go:13", after := #[], guard := none }, { dst := some 43, op := Op.move (Operand.tmp 9), type := 3, pos := "zsortanyfunc.go:13", after := #[], guard := none }, { dst := some 44, op := Op.binOp BinOp.sub 3 (Operand.tmp 43) (Operand.const (Value.int IntKind.i64 1)) 3, type := 3, pos := "zsortanyfunc.go:13", after := #[{ on := 6, ground := Ground.data }], guard := none }, { dst := some 45, op := Op.indexAddr 85 (Operand.tmp 42) (Operand.tmp 44), type := 0, pos := "zsortanyfunc.go:13", after := #[{ on := 5, ground := Ground.data }, { on := 7, ground := Ground.data }], guard := none }, { dst := some 46, op := Op.load 92 (Operand.tmp 45), type := 92, pos := "zsortanyfunc.go:13", after := #[{ on := 8, ground := Ground.data }], guard := none }, { dst := some 47, op := Op.move (Operand.tmp 0), type := 85, pos := "zsortanyfunc.go:13", after := #[], guard := none }, { dst := some 48, op := Op.move (Operand.tmp 9), type := 3, pos := "zsortanyfunc.go:13", after := #[], guard := none }, { dst := some 49, op := Op.indexAddr 85 (Operand.tmp 47) (Operand.tmp 48), type := 0, pos := "zsortanyfunc.go:13", after := #[{ on := 10, ground := Ground.data }, { on := 11, ground := Ground.data }], guard := none }, { dst := some 50, op := Op.load 92 (Operand.tmp 49), type := 92, pos := "zsortanyfunc.go:13", after := #[{ on := 12, ground := Ground.data }], guard := none }, { dst := some 51, op := Op.indexAddr 85 (Operand.tmp 37) (Operand.tmp 38), type := 0, pos := "zsortanyfunc.go:13", after := #[{ on := 0, ground := Ground.data }, { on := 1, ground := Ground.data }, { on := 0, ground := Ground.phase }, { on := 1, ground := Ground.phase }, { on := 2, ground := Ground.textOnly Departure.lateStores }, { on := 3, ground := Ground.textOnly Departure.lateStores }, { on := 4, ground := Ground.textOnly Departure.lateStores }, { on := 5, ground := Ground.phase }, { on := 6, ground := Ground.phase }, { on := 7, ground := Ground.phase }, { on := 8, ground := Ground.phase }, { on := 9, ground := Ground.phase }, { on := 10, ground := Ground.textOnly Departure.lateStores }, { on := 11, ground := Ground.textOnly Departure.lateStores }, { on := 12, ground := Ground.textOnly Departure.lateStoresUnsure }, { on := 13, ground := Ground.phase }], guard := none }, { dst := none, op := Op.store 92 (Operand.tmp 51) (Operand.tmp 46), type := 0, pos := "zsortanyfunc.go:13", after := #[{ on := 14, ground := Ground.data }, { on := 9, ground := Ground.data }, { on := 0, ground := Ground.phase }, { on := 1, ground := Ground.phase }, { on := 2, ground := Ground.textOnly Departure.lateStores }, { on := 3, ground := Ground.textOnly Departure.lateStores }, { on := 4, ground := Ground.textOnly Departure.lateStores }, { on := 5, ground := Ground.phase }, { on := 6, ground := Ground.phase }, { on := 7, ground := Ground.phase }, { on := 8, ground := Ground.phase }, { on := 9, ground := Ground.phase }, { on := 10, ground := Ground.textOnly Departure.lateStores }, { on := 11, ground := Ground.textOnly Departure.lateStores }, { on := 12, ground := Ground.textOnly Departure.lateStoresUnsure }, { on := 13, ground := Ground.phase }], guard := none }, { dst := some 52, op := Op.indexAddr 85 (Operand.tmp 39) (Operand.tmp 41), type := 0, pos := "zsortanyfunc.go:13", after := #[{ on := 2, ground := Ground.data }, { on := 4, ground := Ground.data }, { on := 0, ground := Ground.phase }, { on := 1, ground := Ground.phase }, { on := 2, ground := Ground.phase }, { on := 3, ground := Ground.phase }, { on := 4, ground := Ground.phase }, { on := 5, ground := Ground.phase }, { on := 6, ground := Ground.phase }, { on := 7, ground := Ground.phase }, { on := 8, ground := Ground.phase }, { on := 9, ground := Ground.phase }, { on := 10, ground := Ground.phase }, { on := 11, ground := Ground.phase }, { on := 12, ground := Ground.phase }, { on := 13, ground := Ground.phase }, { on := 14, ground := Ground.phase }, { on := 15, ground := Ground.phase }], guard := none }, { dst := none, op := Op.store 92 (Operand.tmp 52) (Operand.tmp 50), type := 0, pos := "zsortanyfunc.go:13", after := #[{ on := 16, ground := Ground.data }, { on := 13, ground := Ground.data }, { on := 15, ground := Ground.chain }, { on := 0, ground := Ground.phase }, { on := 1, ground := Ground.phase }, { on := 2, ground := Ground.phase }, { on := 3, ground := Ground.phase }, { on := 4, ground := Ground.phase }, { on := 5, ground := Ground.phase }, { on := 6, ground := Ground.phase }, { on := 7, ground := Ground.phase }, { on := 8, ground := Ground.phase }, { on := 9, ground := Ground.phase }, { on := 10, ground := Ground.phase }, { on := 11, ground := Ground.phase }, { on := 12, ground := Ground.phase }, { on := 13, ground := Ground.phase }, { on := 14, ground := Ground.phase }, { on := 15, ground := Ground.phase }], guard := none }] true).wp Tryz.prog Q { tmps := #[.slice (some ⟨g, 0, none⟩) n cap, u1, u2, u3, u4, u5, u6, u7, u8, .int .i64 (p : Int), u10, u11, u12, u13, u14, u15, u16, u17, u18, u19, u20, u21, u22, u23, u24, u25, u26, u27, u28, u29, u30, u31, u32, u33, u34, u35, u36, u37, u38, u39, u40, u41, u42, u43, u44, u45, u46, u47, u48, u49, u50, u51, u52], defers := [] } w := by
  have HK := Lib.hid hk
  have HRp := Lib.hid hrp
  have HRq := Lib.hid hrq
  have HTp : Hid (w.drew.there g (p * 12) Xq.toArray.size) := Lib.hid (by rw [List.size_toArray, hXq]; exact htp)
  have HTq : Hid ((w.drew.setCells g (p * 12) Xq).there g (q * 12) Xp.toArray.size) := Lib.hid (by rw [List.size_toArray, hXp]; exact World.there_setCells htq _ _ _)
  have HSp : Hid ((Tryz.prog.info? 92).map (·.size) = some Xp.length) := Lib.hid (by rw [hXp]; kernel_rfl)
  have HSq : Hid ((Tryz.prog.info? 92).map (·.size) = some Xq.length) := Lib.hid (by rw [hXq]; kernel_rfl)
  have HSp' : Hid ((Tryz.prog.info? 92).map (·.size) = some Xp.toArray.size) := Lib.hid (by rw [List.size_toArray, hXp]; kernel_rfl)
  have HSq' : Hid ((Tryz.prog.info? 92).map (·.size) = some Xq.toArray.size) := Lib.hid (by rw [List.size_toArray, hXq]; kernel_rfl)
  have HOp := Lib.hid hOp
  have HOq := Lib.hid hOq
  clear hk hrp hrq htp htq hXp hXq hOp hOq
  refine wp_region_held_drew (S := fun _ => True) (by kernel_rfl) (trivial) (fun hHeld => ?_)
  refine tk 0 hHeld ?_ (hQ := fun c a w h => hQ c a _ _ w h)
  refine tk 1 hHeld ?_ (hQ := fun c a w h => hQ c a _ _ w h)
  refine tk 2 hHeld ?_ (hQ := fun c a w h => hQ c a _ _ w h)
  refine tk 3 hHeld ?_ (hQ := fun c a w h => hQ c a _ _ w h)
  refine tk 4 hHeld ?_ (hQ := fun c a w h => hQ c a _ _ w h)
  refine tk 5 hHeld ?_ (hQ := fun c a w h => hQ c a _ _ w h)
  refine tk 6 hHeld ?_ (hQ := fun c a w h => hQ c a _ _ w h)
  refine tk 7 hHeld ?_ (hQ := fun c a w h => hQ c a _ _ w h)
  refine tk 8 hHeld ?_ (hQ := fun c a w h => hQ c a _ _ w h)
  refine tk 10 hHeld ?_ (hQ := fun c a w h => hQ c a _ _ w h)
  refine tk 11 hHeld ?_ (hQ := fun c a w h => hQ c a _ _ w h)
  refine tk 12 hHeld ?_ (hQ := fun c a w h => hQ c a _ _ w h)
  refine wpAnyH_ready (rs := [9, 13]) (by kernel_rfl) (by simp) ?_
  refine AllReadyH.cons rfl (fun K hK => ?_) (AllReadyH.cons rfl (fun K hK => ?_) AllReadyH.nil)
  · rw [if_pos (by rfl)]
    refine wp_load_mid 92 (.tmp 45) rfl g (q * 12) rfl Xq _ HRq.out Tryz.underlying92 rfl HSq.out ?_
    refine hK.out _ _ trivial (fun hHeld => ?_)
    clear hK K
    simp only [Act.put, List.getElem_toArray, List.getElem_cons_zero, List.getElem_cons_succ, List.setIfInBounds_toArray, List.set_cons_zero, List.set_cons_succ]
    refine rd 13 (fun K hK => ?_)
    rw [if_pos (by rfl)]
    refine wp_load_mid 92 (.tmp 49) rfl g (p * 12) rfl Xp _ HRp.out Tryz.underlying92 rfl HSp.out ?_
    refine hK.out _ _ trivial (fun hHeld => ?_)
    clear hK K
    simp only [Act.put, List.getElem_toArray, List.getElem_cons_zero, List.getElem_cons_succ, List.setIfInBounds_toArray, List.set_cons_zero, List.set_cons_succ]
    refine tk 14 hHeld ?_ (hQ := fun c a w h => hQ c a _ _ w h)
    refine rd 15 (fun K hK => ?_)
    rw [if_pos (by rfl)]
    refine wp_store_mid 92 (.tmp 51) (.tmp 46) rfl g (p * 12) Xq.toArray rfl rfl HTp.out HSq'.out HOq.out ?_
    refine hK.out _ _ trivial (fun hHeld => ?_)
    clear hK K
    simp only [Act.put, List.getElem_toArray, List.getElem_cons_zero, List.getElem_cons_succ]
    refine tk 16 hHeld ?_ (hQ := fun c a w h => hQ c a _ _ w h)
    refine rd 17 (fun K hK => ?_)
    rw [if_pos (by rfl)]
    refine wp_store_mid 92 (.tmp 52) (.tmp 50) rfl g (q * 12) Xp.toArray rfl rfl HTq.out HSp'.out HOp.out ?_
    refine hK.out _ _ trivial (fun hHeld => ?_)
    clear hK K
    simp only [Act.put, List.getElem_toArray, List.getElem_cons_zero, List.getElem_cons_succ]
    refine wpAnyH_done (by kernel_rfl) ?_ _
    exact HK.out _ rfl
  · rw [if_pos (by rfl)]
    refine wp_load_mid 92 (.tmp 49) rfl g (p * 12) rfl Xp _ HRp.out Tryz.underlying92 rfl HSp.out ?_
    refine hK.out _ _ trivial (fun hHeld => ?_)
    clear hK K
    simp only [Act.put, List.getElem_toArray, List.getElem_cons_zero, List.getElem_cons_succ, List.setIfInBounds_toArray, List.set_cons_zero, List.set_cons_succ]
    refine rd 9 (fun K hK => ?_)
    rw [if_pos (by rfl)]
    refine wp_load_mid 92 (.tmp 45) rfl g (q * 12) rfl Xq _ HRq.out Tryz.underlying92 rfl HSq.out ?_
    refine hK.out _ _ trivial (fun hHeld => ?_)
    clear hK K
    simp only [Act.put, List.getElem_toArray, List.getElem_cons_zero, List.getElem_cons_succ, List.setIfInBounds_toArray, List.set_cons_zero, List.set_cons_succ]
    refine tk 14 hHeld ?_ (hQ := fun c a w h => hQ c a _ _ w h)
    refine rd 15 (fun K hK => ?_)
    rw [if_pos (by rfl)]
    refine wp_store_mid 92 (.tmp 51) (.tmp 46) rfl g (p * 12) Xq.toArray rfl rfl HTp.out HSq'.out HOq.out ?_
    refine hK.out _ _ trivial (fun hHeld => ?_)
    clear hK K
    simp only [Act.put, List.getElem_toArray, List.getElem_cons_zero, List.getElem_cons_succ]
    refine tk 16 hHeld ?_ (hQ := fun c a w h => hQ c a _ _ w h)
    refine rd 17 (fun K hK => ?_)
    rw [if_pos (by rfl)]
    refine wp_store_mid 92 (.tmp 52) (.tmp 50) rfl g (q * 12) Xp.toArray rfl rfl HTq.out HSp'.out HOp.out ?_
    refine hK.out _ _ trivial (fun hHeld => ?_)
    clear hK K
    simp only [Act.put, List.getElem_toArray, List.getElem_cons_zero, List.getElem_cons_succ]
    refine wpAnyH_done (by kernel_rfl) ?_ _
    exact HK.out _ rfl

set_option maxHeartbeats 8000000 in
set_option maxRecDepth 100000 in
theorem swap_rev {u1 u4 u5 u6 u7 u8 u9 u10 u11 u12 u13 u14 u15 u16 u17 u18 u19 u20 u21 u22 u23 u24 u25 u26 u27 : Value} {Q : Exit → Go.Act → World → Prop} {g n cap : Nat} {p q : Nat} {Xp Xq : List Value}  {w : World}
    (hQ : ∀ c a d v w, Q (.panic c) (a.put d v) w → Q (.panic c) a w)
    
    (hp0 : (0 : Int) ≤ (p : Int)) (hp1 : (p : Int) < (n : Int)) (hq0 : (0 : Int) ≤ (q : Int)) (hq1 : (q : Int) < (n : Int))
    (hXp : Xp.length = 12) (hXq : Xq.length = 12) (hOp : Xp.toArray.all (·.oneCell') = true) (hOq : Xq.toArray.all (·.oneCell') = true)
    (hrp : w.drew.rangeAt g (p * 12) Xp) (hrq : w.drew.rangeAt g (q * 12) Xq) (htp : w.drew.there g (p * 12) 12) (htq : w.drew.there g (q * 12) 12)
    (hk : ∀ W', W' = ((w.drew.setCells g (p * 12) Xq).setCells g (q * 12) Xp) → Q .normal { tmps := #[.slice (some ⟨g, 0, none⟩) n cap, u1, .int .i64 (p : Int), .int .i64 (q : Int), u4, u5, u6, u7, u8, u9, u10, u11, u12, u13, .slice (some ⟨g, 0, none⟩) n cap, .int .i64 (p : Int), .slice (some ⟨g, 0, none⟩) n cap, .int .i64 (q : Int), .slice (some ⟨g, 0, none⟩) n cap, .int .i64 (q : Int), .pointer (some ⟨g, q * 12, none⟩), .agg Xq.toArray, .slice (some ⟨g, 0, none⟩) n cap, .int .i64 (p : Int), .pointer (some ⟨g, p * 12, none⟩), .agg Xp.toArray, .pointer (some ⟨g, p * 12, none⟩), .pointer (some ⟨g, q * 12, none⟩)], defers := [] } W') :
    (Code.region 3 #[{ dst := some 14, op := Op.move (Operand.tmp 0), type := 85, pos := "slices.go:485", after := #[], guard := none }, { dst := some 15, op := Op.move (Operand.tmp 2), type := 3, pos := "slices.go:485", after := #[], guard := none }, { dst := some 16, op := Op.move (Operand.tmp 0), type := 85, pos := "slices.go:485", after := #[{ on := 13, ground := Ground.gcOnly Departure.lateStores }], guard := none }, { dst := some 17, op := Op.move (Operand.tmp 3), type := 3, pos := "slices.go:485", after := #[{ on := 13, ground := Ground.gcOnly Departure.lateStores }], guard := none }, { dst := some 18, op := Op.move (Operand.tmp 0), type := 85, pos := "slices.go:485", after := #[], guard := none }, { dst := some 19, op := Op.move (Operand.tmp 3), type := 3, pos := "slices.go:485", after := #[], guard := none }, { dst := some 20, op := Op.indexAddr 85 (Operand.tmp 18) (Operand.tmp 19), type := 0, pos := "slices.go:485", after := #[{ on := 4, ground := Ground.data }, { on := 5, ground := Ground.data }], guard := none }, { dst := some 21, op := Op.load 92 (Operand.tmp 20), type := 92, pos := "slices.go:485", after := #[{ on := 6, ground := Ground.data }], guard := none }, { dst := some 22, op := Op.move (Operand.tmp 0), type := 85, pos := "slices.go:485", after := #[], guard := none }, { dst := some 23, op := Op.move (Operand.tmp 2), type := 3, pos := "slices.go:485", after := #[], guard := none }, { dst := some 24, op := Op.indexAddr 85 (Operand.tmp 22) (Operand.tmp 23), type := 0, pos := "slices.go:485", after := #[{ on := 8, ground := Ground.data }, { on := 9, ground := Ground.data }], guard := none }, { dst := some 25, op := Op.load 92 (Operand.tmp 24), type := 92, pos := "slices.go:485", after := #[{ on := 10, ground := Ground.data }], guard := none }, { dst := some 26, op := Op.indexAddr 85 (Operand.tmp 14) (Operand.tmp 15), type := 0, pos := "slices.go:485", after := #[{ on := 0, ground := Ground.data }, { on := 1, ground := Ground.data }, { on := 0, ground := Ground.phase }, { on := 1, ground := Ground.phase }, { on := 2, ground := Ground.textOnly Departure.lateStores }, { on := 3, ground := Ground.textOnly Departure.lateStores }, { on := 4, ground := Ground.phase }, { on := 5, ground := Ground.phase }, { on := 6, ground := Ground.phase }, { on := 7, ground := Ground.phase }, { on := 8, ground := Ground.textOnly Departure.lateStores }, { on := 9, ground := Ground.textOnly Departure.lateStores }, { on := 10, ground := Ground.textOnly Departure.lateStoresUnsure }, { on := 11, ground := Ground.phase }], guard := none }, { dst := none, op := Op.store 92 (Operand.tmp 26) (Operand.tmp 21), type := 0, pos := "slices.go:485", after := #[{ on := 12, ground := Ground.data }, { on := 7, ground := Ground.data }, { on := 0, ground := Ground.phase }, { on := 1, ground := Ground.phase }, { on := 2, ground := Ground.textOnly Departure.lateStores }, { on := 3, ground := Ground.textOnly Departure.lateStores }, { on := 4, ground := Ground.phase }, { on := 5, ground := Ground.phase }, { on := 6, ground := Ground.phase }, { on := 7, ground := Ground.phase }, { on := 8, ground := Ground.textOnly Departure.lateStores }, { on := 9, ground := Ground.textOnly Departure.lateStores }, { on := 10, ground := Ground.textOnly Departure.lateStoresUnsure }, { on := 11, ground := Ground.phase }], guard := none }, { dst := some 27, op := Op.indexAddr 85 (Operand.tmp 16) (Operand.tmp 17), type := 0, pos := "slices.go:485", after := #[{ on := 2, ground := Ground.data }, { on := 3, ground := Ground.data }, { on := 0, ground := Ground.phase }, { on := 1, ground := Ground.phase }, { on := 2, ground := Ground.phase }, { on := 3, ground := Ground.phase }, { on := 4, ground := Ground.phase }, { on := 5, ground := Ground.phase }, { on := 6, ground := Ground.phase }, { on := 7, ground := Ground.phase }, { on := 8, ground := Ground.phase }, { on := 9, ground := Ground.phase }, { on := 10, ground := Ground.phase }, { on := 11, ground := Ground.phase }, { on := 12, ground := Ground.phase }, { on := 13, ground := Ground.phase }], guard := none }, { dst := none, op := Op.store 92 (Operand.tmp 27) (Operand.tmp 25), type := 0, pos := "slices.go:485", after := #[{ on := 14, ground := Ground.data }, { on := 11, ground := Ground.data }, { on := 13, ground := Ground.chain }, { on := 0, ground := Ground.phase }, { on := 1, ground := Ground.phase }, { on := 2, ground := Ground.phase }, { on := 3, ground := Ground.phase }, { on := 4, ground := Ground.phase }, { on := 5, ground := Ground.phase }, { on := 6, ground := Ground.phase }, { on := 7, ground := Ground.phase }, { on := 8, ground := Ground.phase }, { on := 9, ground := Ground.phase }, { on := 10, ground := Ground.phase }, { on := 11, ground := Ground.phase }, { on := 12, ground := Ground.phase }, { on := 13, ground := Ground.phase }], guard := none }] true).wp Tryz.prog Q { tmps := #[.slice (some ⟨g, 0, none⟩) n cap, u1, .int .i64 (p : Int), .int .i64 (q : Int), u4, u5, u6, u7, u8, u9, u10, u11, u12, u13, u14, u15, u16, u17, u18, u19, u20, u21, u22, u23, u24, u25, u26, u27], defers := [] } w := by
  have HK := Lib.hid hk
  have HRp := Lib.hid hrp
  have HRq := Lib.hid hrq
  have HTp : Hid (w.drew.there g (p * 12) Xq.toArray.size) := Lib.hid (by rw [List.size_toArray, hXq]; exact htp)
  have HTq : Hid ((w.drew.setCells g (p * 12) Xq).there g (q * 12) Xp.toArray.size) := Lib.hid (by rw [List.size_toArray, hXp]; exact World.there_setCells htq _ _ _)
  have HSp : Hid ((Tryz.prog.info? 92).map (·.size) = some Xp.length) := Lib.hid (by rw [hXp]; kernel_rfl)
  have HSq : Hid ((Tryz.prog.info? 92).map (·.size) = some Xq.length) := Lib.hid (by rw [hXq]; kernel_rfl)
  have HSp' : Hid ((Tryz.prog.info? 92).map (·.size) = some Xp.toArray.size) := Lib.hid (by rw [List.size_toArray, hXp]; kernel_rfl)
  have HSq' : Hid ((Tryz.prog.info? 92).map (·.size) = some Xq.toArray.size) := Lib.hid (by rw [List.size_toArray, hXq]; kernel_rfl)
  have HOp := Lib.hid hOp
  have HOq := Lib.hid hOq
  clear hk hrp hrq htp htq hXp hXq hOp hOq
  refine wp_region_held_drew (S := fun _ => True) (by kernel_rfl) (trivial) (fun hHeld => ?_)
  refine tk 0 hHeld ?_ (hQ := fun c a w h => hQ c a _ _ w h)
  refine tk 1 hHeld ?_ (hQ := fun c a w h => hQ c a _ _ w h)
  refine tk 2 hHeld ?_ (hQ := fun c a w h => hQ c a _ _ w h)
  refine tk 3 hHeld ?_ (hQ := fun c a w h => hQ c a _ _ w h)
  refine tk 4 hHeld ?_ (hQ := fun c a w h => hQ c a _ _ w h)
  refine tk 5 hHeld ?_ (hQ := fun c a w h => hQ c a _ _ w h)
  refine tk 6 hHeld ?_ (hQ := fun c a w h => hQ c a _ _ w h)
  refine tk 8 hHeld ?_ (hQ := fun c a w h => hQ c a _ _ w h)
  refine tk 9 hHeld ?_ (hQ := fun c a w h => hQ c a _ _ w h)
  refine tk 10 hHeld ?_ (hQ := fun c a w h => hQ c a _ _ w h)
  refine wpAnyH_ready (rs := [7, 11]) (by kernel_rfl) (by simp) ?_
  refine AllReadyH.cons rfl (fun K hK => ?_) (AllReadyH.cons rfl (fun K hK => ?_) AllReadyH.nil)
  · rw [if_pos (by rfl)]
    refine wp_load_mid 92 (.tmp 20) rfl g (q * 12) rfl Xq _ HRq.out Tryz.underlying92 rfl HSq.out ?_
    refine hK.out _ _ trivial (fun hHeld => ?_)
    clear hK K
    simp only [Act.put, List.getElem_toArray, List.getElem_cons_zero, List.getElem_cons_succ, List.setIfInBounds_toArray, List.set_cons_zero, List.set_cons_succ]
    refine rd 11 (fun K hK => ?_)
    rw [if_pos (by rfl)]
    refine wp_load_mid 92 (.tmp 24) rfl g (p * 12) rfl Xp _ HRp.out Tryz.underlying92 rfl HSp.out ?_
    refine hK.out _ _ trivial (fun hHeld => ?_)
    clear hK K
    simp only [Act.put, List.getElem_toArray, List.getElem_cons_zero, List.getElem_cons_succ, List.setIfInBounds_toArray, List.set_cons_zero, List.set_cons_succ]
    refine tk 12 hHeld ?_ (hQ := fun c a w h => hQ c a _ _ w h)
    refine rd 13 (fun K hK => ?_)
    rw [if_pos (by rfl)]
    refine wp_store_mid 92 (.tmp 26) (.tmp 21) rfl g (p * 12) Xq.toArray rfl rfl HTp.out HSq'.out HOq.out ?_
    refine hK.out _ _ trivial (fun hHeld => ?_)
    clear hK K
    simp only [Act.put, List.getElem_toArray, List.getElem_cons_zero, List.getElem_cons_succ]
    refine tk 14 hHeld ?_ (hQ := fun c a w h => hQ c a _ _ w h)
    refine rd 15 (fun K hK => ?_)
    rw [if_pos (by rfl)]
    refine wp_store_mid 92 (.tmp 27) (.tmp 25) rfl g (q * 12) Xp.toArray rfl rfl HTq.out HSp'.out HOp.out ?_
    refine hK.out _ _ trivial (fun hHeld => ?_)
    clear hK K
    simp only [Act.put, List.getElem_toArray, List.getElem_cons_zero, List.getElem_cons_succ]
    refine wpAnyH_done (by kernel_rfl) ?_ _
    exact HK.out _ rfl
  · rw [if_pos (by rfl)]
    refine wp_load_mid 92 (.tmp 24) rfl g (p * 12) rfl Xp _ HRp.out Tryz.underlying92 rfl HSp.out ?_
    refine hK.out _ _ trivial (fun hHeld => ?_)
    clear hK K
    simp only [Act.put, List.getElem_toArray, List.getElem_cons_zero, List.getElem_cons_succ, List.setIfInBounds_toArray, List.set_cons_zero, List.set_cons_succ]
    refine rd 7 (fun K hK => ?_)
    rw [if_pos (by rfl)]
    refine wp_load_mid 92 (.tmp 20) rfl g (q * 12) rfl Xq _ HRq.out Tryz.underlying92 rfl HSq.out ?_
    refine hK.out _ _ trivial (fun hHeld => ?_)
    clear hK K
    simp only [Act.put, List.getElem_toArray, List.getElem_cons_zero, List.getElem_cons_succ, List.setIfInBounds_toArray, List.set_cons_zero, List.set_cons_succ]
    refine tk 12 hHeld ?_ (hQ := fun c a w h => hQ c a _ _ w h)
    refine rd 13 (fun K hK => ?_)
    rw [if_pos (by rfl)]
    refine wp_store_mid 92 (.tmp 26) (.tmp 21) rfl g (p * 12) Xq.toArray rfl rfl HTp.out HSq'.out HOq.out ?_
    refine hK.out _ _ trivial (fun hHeld => ?_)
    clear hK K
    simp only [Act.put, List.getElem_toArray, List.getElem_cons_zero, List.getElem_cons_succ]
    refine tk 14 hHeld ?_ (hQ := fun c a w h => hQ c a _ _ w h)
    refine rd 15 (fun K hK => ?_)
    rw [if_pos (by rfl)]
    refine wp_store_mid 92 (.tmp 27) (.tmp 25) rfl g (q * 12) Xp.toArray rfl rfl HTq.out HSp'.out HOp.out ?_
    refine hK.out _ _ trivial (fun hHeld => ?_)
    clear hK K
    simp only [Act.put, List.getElem_toArray, List.getElem_cons_zero, List.getElem_cons_succ]
    refine wpAnyH_done (by kernel_rfl) ?_ _
    exact HK.out _ rfl

end Go.Proofs.YthhfcedhbfandaaGreat
