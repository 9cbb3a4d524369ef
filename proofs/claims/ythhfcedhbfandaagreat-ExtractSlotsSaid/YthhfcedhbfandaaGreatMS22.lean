/-
  The library's changes of two rows about: each a region that draws its order, for any frame.
-/
import Derived.Test.YthhfcedhbfandaaGreatMS21
import Derived.Deep.RegionHeld3
namespace Go.Proofs.YthhfcedhbfandaaGreat
open Go.RowKit

set_option maxHeartbeats 8000000 in
set_option maxRecDepth 100000 in
theorem swap_ins {u1 u2 u3 u4 u5 u6 u7 u8 u10 u11 u12 u13 u14 u15 u16 u17 u18 u19 u20 u21 u22 u23 u24 u25 u26 u27 u28 u29 u30 u31 u32 u33 u34 u35 u36 u37 u38 u39 u40 u41 u42 u43 u44 u45 u46 u47 u48 u49 u50 u51 u52 : Value} {Q : Exit → Go.Act → World → Prop} {g n cap : Nat} {p q : Nat} {Xp Xq : List Value}  {w : World}
    (hQ : ∀ c a d v w, Q (.panic c) (a.put d v) w → Q (.panic c) a w)
    (hw : IntKind.i64.wrap ((p : Int) - 1) = (q : Int))
    (hp0 : (0 : Int) ≤ (p : Int)) (hp1 : (p : Int) < (n : Int)) (hq0 : (0 : Int) ≤ (q : Int)) (hq1 : (q : Int) < (n : Int))
    (hXp : Xp.length = 12) (hXq : Xq.length = 12) (hOp : Xp.toArray.all (·.oneCell') = true) (hOq : Xq.toArray.all (·.oneCell') = true)
    (hrp : w.drew.rangeAt g (p * 12) Xp) (hrq : w.drew.rangeAt g (q * 12) Xq) (htp : w.drew.there g (p * 12) 12) (htq : w.drew.there g (q * 12) 12)
    (hk : ∀ W', W' = ((w.drew.setCells g (p * 12) Xq).setCells g (q * 12) Xp) → Q .normal { tmps := #[.slice (some ⟨g, 0, none⟩) n cap, u1, u2, u3, u4, u5, u6, u7, u8, .int .i64 (p : Int), u10, u11, u12, u13, u14, u15, u16, u17, u18, u19, u20, u21, u22, u23, u24, u25, u26, u27, u28, u29, u30, u31, u32, u33, u34, u35, u36, .slice (some ⟨g, 0, none⟩) n cap, .int .i64 (p : Int), .slice (some ⟨g, 0, none⟩) n cap, .int .i64 (p : Int), .int .i64 (q : Int), .slice (some ⟨g, 0, none⟩) n cap, .int .i64 (p : Int), .int .i64 (q : Int), .pointer (some ⟨g, q * 12, none⟩), .agg Xq.toArray, .slice (some ⟨g, 0, none⟩) n cap, .int .i64 (p : Int), .pointer (some ⟨g, p * 12, none⟩), .agg Xp.toArray, .pointer (some ⟨g, p * 12, none⟩), .pointer (some ⟨g, q * 12, none⟩)], defers := [] } W') :
    (Code.region 6 #[{ dst := some 37, op := Op.move (Operand.tmp 0), type := 85, pos := "zsortanyfunc.go:13", after := #[], guard := none }, { dst := some 38, op := Op.move (Operand.tmp 9), type := 3, pos := "zsortanyfunc.go:13", after := #[], guard := none }, { dst := some 39, op := Op.move (Operand.tmp 0), type := 85, pos := "zsortanyfunc.go:13", after := #[{ on := 15, ground := Ground.gcOnly Departure.lateStores }], guard := none }, { dst := some 40, op := Op.move (Operand.tmp 9), type := 3, pos := "zsortanyfunc.go:13", after := #[{ on := 15, ground := Ground.gcOnly Departure.lateStores }], guard := none }, { dst := some 41, op := Op.binOp BinOp.sub 3 (Operand.tmp 40) (Operand.const (Value.int IntKind.i64 1)) 3, type := 3, pos := "zsortanyfunc.go:13", after := #[{ on := 3, ground := Ground.data }, { on := 15, ground := Ground.gcOnly Departure.lateStores }], guard := none }, { dst := some 42, op := Op.move (Operand.tmp 0), type := 85, pos := "zsortanyfunc.go:13", after := #[], guard := none }, { dst := some 43, op := Op.move (Operand.tmp 9), type := 3, pos := "zsortanyfunc.go:13", after := #[], guard := none }, { dst := some 44, op := Op.binOp BinOp.sub 3 (Operand.tmp 43) (Operand.const (Value.int IntKind.i64 1)) 3, type := 3, pos := "zsortanyfunc.go:13", after := #[{ on := 6, ground := Ground.data }], guard := none }, { dst := some 45, op := Op.indexAddr 85 (Operand.tmp 42) (Operand.tmp 44), type := 0, pos := "zsortanyfunc.go:13", after := #[{ on := 5, ground := Ground.data }, { on := 7, ground := Ground.data }], guard := none }, { dst := some 46, op := Op.load 92 (Operand.tmp 45), type := 92, pos := "zsortanyfunc.go:13", after := #[{ on := 8, ground := Ground.data }], guard := none }, { dst := some 47, op := Op.move (Operand.tmp 0), type := 85, pos := "zsortanyfunc.go:13", after := #[], guard := none }, { dst := some 48, op := Op.move (Operand.tmp 9), type := 3, pos := "zsortanyfunc.go:13", after := #[], guard := none }, { dst := some 49, op := Op.indexAddr 85 (Operand.tmp 47) (Operand.tmp 48), type := 0, pos := "zsortanyfunc.go:13", after := #[{ on := 10, ground := Ground.data }, { on := 11, ground := Ground.data }], guard := none }, { dst := some 50, op := Op.load 92 (Operand.tmp 49), type := 92, pos := "zsortanyfunc.go:13", after := #[{ on := 12, ground := Ground.data }], guard := none }, { dst := some 51, op := Op.indexAddr 85 (Operand.tmp 37) (Operand.tmp 38), type := 0, pos := "zsortanyfunc.go:13", after := #[{ on := 0, ground := Ground.data }, { on := 1, ground := Ground.data }, { on := 0, ground := Ground.phase }, { on := 1, ground := Ground.phase }, { on := 2, ground := Ground.textOnly Departure.lateStores }, { on := 3, ground := Ground.textOnly Departure.lateStores }, { on := 4, ground := Ground.textOnly Departure.lateStores }, { on := 5, ground := Ground.phase }, { on := 6, ground := Ground.phase }, { on := 7, ground := Ground.phase }, { on := 8, ground := Ground.phase }, { on := 9, ground := Ground.phase }, { on := 10, ground := Ground.textOnly Departure.lateStores }, { on := 11, ground := Ground.textOnly Departure.lateStores }, { on := 12, ground := Ground.textOnly Departure.lateStoresUnsure }, { on := 13, ground := Ground.phase }], guard := none }, { dst := none, op := Op.store 92 (Operand.tmp 51) (Operand.tmp 46), type := 0, pos := "zsortanyfunc.go:13", after := #[{ on := 14, ground := Ground.data }, { on := 9, ground := Ground.data }, { on := 0, ground := Ground.phase }, { on := 1, ground := Ground.phase }, { on := 2, ground := Ground.textOnly Departure.lateStores }, { on := 3, ground := Ground.textOnly Departure.lateStores }, { on := 4, ground := Ground.textOnly Departure.lateStores }, { on := 5, ground := Ground.phase }, { on := 6, ground := Ground.phase }, { on := 7, ground := Ground.phase }, { on := 8, ground := Ground.phase }, { on := 9, ground := Ground.phase }, { on := 10, ground := Ground.textOnly Departure.lateStores }, { on := 11, ground := Ground.textOnly Departure.lateStores }, { on := 12, ground := Ground.textOnly Departure.lateStoresUnsure }, { on := 13, ground := Ground.phase }], guard := none }, { dst := some 52, op := Op.indexAddr 85 (Operand.tmp 39) (Operand.tmp 41), type := 0, pos := "zsortanyfunc.go:13", after := #[{ on := 2, ground := Ground.data }, { on := 4, ground := Ground.data }, { on := 0, ground := Ground.phase }, { on := 1, ground := Ground.phase }, { on := 2, ground := Ground.phase }, { on := 3, ground := Ground.phase }, { on := 4, ground := Ground.phase }, { on := 5, ground := Ground.phase }, { on := 6, ground := Ground.phase }, { on := 7, ground := Ground.phase }, { on := 8, ground := Ground.phase }, { on := 9, ground := Ground.phase }, { on := 10, ground := Ground.phase }, { on := 11, ground := Ground.phase }, { on := 12, ground := Ground.phase }, { on := 13, ground := Ground.phase }, { on := 14, ground := Ground.phase }, { on := 15, ground := Ground.phase }], guard := none }, { dst := none, op := Op.store 92 (Operand.tmp 52) (Operand.tmp 50), type := 0, pos := "zsortanyfunc.go:13", after := #[{ on := 16, ground := Ground.data }, { on := 13, ground := Ground.data }, { on := 15, ground := Ground.chain }, { on := 0, ground := Ground.phase }, { on := 1, ground := Ground.phase }, { on := 2, ground := Ground.phase }, { on := 3, ground := Ground.phase }, { on := 4, ground := Ground.phase }, { on := 5, ground := Ground.phase }, { on := 6, ground := Ground.phase }, { on := 7, ground := Ground.phase }, { on := 8, ground := Ground.phase }, { on := 9, ground := Ground.phase }, { on := 10, ground := Ground.phase }, { on := 11, ground := Ground.phase }, { on := 12, ground := Ground.phase }, { on := 13, ground := Ground.phase }, { on := 14, ground := Ground.phase }, { on := 15, ground := Ground.phase }], guard := none }] true).wp Tryz.prog Q { tmps := #[.slice (some ⟨g, 0, none⟩) n cap, u1, u2, u3, u4, u5, u6, u7, u8, .int .i64 (p : Int), u10, u11, u12, u13, u14, u15, u16, u17, u18, u19, u20, u21, u22, u23, u24, u25, u26, u27, u28, u29, u30, u31, u32, u33, u34, u35, u36, u37, u38, u39, u40, u41, u42, u43, u44, u45, u46, u47, u48, u49, u50, u51, u52], defers := [] } w := by
  have HK := Lib.hid hk
  have HRp := Lib.hid hrp
  have HRq := Lib.hid hrq
  have HTp : Hid (w.drew.there g (p * 12) Xq.toArray.size) := Lib.hid (by rw [List.size_toArray, hXq]; exact htp)
  have HTq : Hid ((w.drew.setCells g (p * 12) Xq).there g (q * 12) Xp.toArray.size) := Lib.hid (by rw [List.size_toArray, hXp]; exact World.there_setCells htq _ _ _)
  have HSp : Hid ((Tryz.prog.info? 92).map (·.size) = some Xp.length) := Lib.hid (by rw [hXp]; kernel_rfl)
  have HSq : Hid ((Tryz.prog.info? 92).map (·.size) = some Xq.length) := Lib.hid (by rw [hXq]; kernel_rfl)
  have HSp' : Hid ((Tryz.prog.info? 92).map (·.size) = some Xp.toArray.size) := Lib.hid (by rw [List.size_toArray, hXp]; kernel_rfl)
  have HSq' : Hid ((Tryz.prog.info? 92).map (·.size) = some Xq.toArray.size) := Lib.hid (by rw [List.size_toArray, hXq]; kernel_rfl)
  have HOp := Lib.hid hOp
  have HOq := Lib.hid hOq
  clear hk hrp hrq htp htq hXp hXq hOp hOq
  refine wp_region_held_drew (S := fun _ => True) (by kernel_rfl) (trivial) (fun hHeld => ?_)
  refine tk 0 hHeld ?_ (hQ := fun c a w h => hQ c a _ _ w h)
  refine tk 1 hHeld ?_ (hQ := fun c a w h => hQ c a _ _ w h)
  refine tk 2 hHeld ?_ (hQ := fun c a w h => hQ c a _ _ w h)
  refine tk 3 hHeld ?_ (hQ := fun c a w h => hQ c a _ _ w h)
  refine tk 4 hHeld ?_ (hQ := fun c a w h => hQ c a _ _ w h)
  refine tk 5 hHeld ?_ (hQ := fun c a w h => hQ c a _ _ w h)
  refine tk 6 hHeld ?_ (hQ := fun c a w h => hQ c a _ _ w h)
  refine tk 7 hHeld ?_ (hQ := fun c a w h => hQ c a _ _ w h)
  refine tk 8 hHeld ?_ (hQ := fun c a w h => hQ c a _ _ w h)
  refine tk 10 hHeld ?_ (hQ := fun c a w h => hQ c a _ _ w h)
  refine tk 11 hHeld ?_ (hQ := fun c a w h => hQ c a _ _ w h)
  refine tk 12 hHeld ?_ (hQ := fun c a w h => hQ c a _ _ w h)
  refine wpAnyH_ready (rs := [9, 13]) (by kernel_rfl) (by simp) ?_
  refine AllReadyH.cons rfl (fun K hK => ?_) (AllReadyH.cons rfl (fun K hK => ?_) AllReadyH.nil)
  · rw [if_pos (by rfl)]
    refine wp_load_mid 92 (.tmp 45) rfl g (q * 12) rfl Xq _ HRq.out Tryz.underlying92 rfl HSq.out ?_
    refine hK.out _ _ trivial (fun hHeld => ?_)
    clear hK K
    simp only [Act.put, List.getElem_toArray, List.getElem_cons_zero, List.getElem_cons_succ, List.setIfInBounds_toArray, List.set_cons_zero, List.set_cons_succ]
    refine rd 13 (fun K hK => ?_)
    rw [if_pos (by rfl)]
    refine wp_load_mid 92 (.tmp 49) rfl g (p * 12) rfl Xp _ HRp.out Tryz.underlying92 rfl HSp.out ?_
    refine hK.out _ _ trivial (fun hHeld => ?_)
    clear hK K
    simp only [Act.put, List.getElem_toArray, List.getElem_cons_zero, List.getElem_cons_succ, List.setIfInBounds_toArray, List.set_cons_zero, List.set_cons_succ]
    refine tk 14 hHeld ?_ (hQ := fun c a w h => hQ c a _ _ w h)
    refine rd 15 (fun K hK => ?_)
    rw [if_pos (by rfl)]
    refine wp_store_mid 92 (.tmp 51) (.tmp 46) rfl g (p * 12) Xq.toArray rfl rfl HTp.out HSq'.out HOq.out ?_
    refine hK.out _ _ trivial (fun hHeld => ?_)
    clear hK K
    simp only [Act.put, List.getElem_toArray, List.getElem_cons_zero, List.getElem_cons_succ]
    refine tk 16 hHeld ?_ (hQ := fun c a w h => hQ c a _ _ w h)
    refine rd 17 (fun K hK => ?_)
    rw [if_pos (by rfl)]
    refine wp_store_mid 92 (.tmp 52) (.tmp 50) rfl g (q * 12) Xp.toArray rfl rfl HTq.out HSp'.out HOp.out ?_
    refine hK.out _ _ trivial (fun hHeld => ?_)
    clear hK K
    simp only [Act.put, List.getElem_toArray, List.getElem_cons_zero, List.getElem_cons_succ]
    refine wpAnyH_done (by kernel_rfl) ?_ _
    exact HK.out _ rfl
  · rw [if_pos (by rfl)]
    refine wp_load_mid 92 (.tmp 49) rfl g (p * 12) rfl Xp _ HRp.out Tryz.underlying92 rfl HSp.out ?_
    refine hK.out _ _ trivial (fun hHeld => ?_)
    clear hK K
    simp only [Act.put, List.getElem_toArray, List.getElem_cons_zero, List.getElem_cons_succ, List.setIfInBounds_toArray, List.set_cons_zero, List.set_cons_succ]
    refine rd 9 (fun K hK => ?_)
    rw [if_pos (by rfl)]
    refine wp_load_mid 92 (.tmp 45) rfl g (q * 12) rfl Xq _ HRq.out Tryz.underlying92 rfl HSq.out ?_
    refine hK.out _ _ trivial (fun hHeld => ?_)
    clear hK K
    simp only [Act.put, List.getElem_toArray, List.getElem_cons_zero, List.getElem_cons_succ, List.setIfInBounds_toArray, List.set_cons_zero, List.set_cons_succ]
    refine tk 14 hHeld ?_ (hQ := fun c a w h => hQ c a _ _ w h)
    refine rd 15 (fun K hK => ?_)
    rw [if_pos (by rfl)]
    refine wp_store_mid 92 (.tmp 51) (.tmp 46) rfl g (p * 12) Xq.toArray rfl rfl HTp.out HSq'.out HOq.out ?_
    refine hK.out _ _ trivial (fun hHeld => ?_)
    clear hK K
    simp only [Act.put, List.getElem_toArray, List.getElem_cons_zero, List.getElem_cons_succ]
    refine tk 16 hHeld ?_ (hQ := fun c a w h => hQ c a _ _ w h)
    refine rd 17 (fun K hK => ?_)
    rw [if_pos (by rfl)]
    refine wp_store_mid 92 (.tmp 52) (.tmp 50) rfl g (q * 12) Xp.toArray rfl rfl HTq.out HSp'.out HOp.out ?_
    refine hK.out _ _ trivial (fun hHeld => ?_)
    clear hK K
    simp only [Act.put, List.getElem_toArray, List.getElem_cons_zero, List.getElem_cons_succ]
    refine wpAnyH_done (by kernel_rfl) ?_ _
    exact HK.out _ rfl

set_option maxHeartbeats 8000000 in
set_option maxRecDepth 100000 in
theorem swap_rng {u3 u4 u5 u6 u7 u8 u9 u11 u12 u13 u14 u15 u16 u17 u18 u19 u20 u21 u22 u23 u24 u25 u26 u27 u28 u29 u30 u31 u32 u33 u34 u35 u36 u37 : Value} {Q : Exit → Go.Act → World → Prop} {g n cap : Nat} {p q : Nat} {Xp Xq : List Value} {a b i : Nat} {w : World}
    (hQ : ∀ c a d v w, Q (.panic c) (a.put d v) w → Q (.panic c) a w)
    (hwp : IntKind.i64.wrap ((a : Int) + (i : Int)) = (p : Int)) (hwq : IntKind.i64.wrap ((b : Int) + (i : Int)) = (q : Int))
    (hp0 : (0 : Int) ≤ (p : Int)) (hp1 : (p : Int) < (n : Int)) (hq0 : (0 : Int) ≤ (q : Int)) (hq1 : (q : Int) < (n : Int))
    (hXp : Xp.length = 12) (hXq : Xq.length = 12) (hOp : Xp.toArray.all (·.oneCell') = true) (hOq : Xq.toArray.all (·.oneCell') = true)
    (hrp : w.drew.rangeAt g (p * 12) Xp) (hrq : w.drew.rangeAt g (q * 12) Xq) (htp : w.drew.there g (p * 12) 12) (htq : w.drew.there g (q * 12) 12)
    (hk : ∀ W', W' = ((w.drew.setCells g (p * 12) Xq).setCells g (q * 12) Xp) → Q .normal { tmps := #[.slice (some ⟨g, 0, none⟩) n cap, .int .i64 (a : Int), .int .i64 (b : Int), u3, u4, u5, u6, u7, u8, u9, .int .i64 (i : Int), u11, u12, u13, u14, u15, .slice (some ⟨g, 0, none⟩) n cap, .int .i64 (a : Int), .int .i64 (i : Int), .int .i64 (p : Int), .slice (some ⟨g, 0, none⟩) n cap, .int .i64 (b : Int), .int .i64 (i : Int), .int .i64 (q : Int), .slice (some ⟨g, 0, none⟩) n cap, .int .i64 (b : Int), .int .i64 (i : Int), .int .i64 (q : Int), .pointer (some ⟨g, q * 12, none⟩), .agg Xq.toArray, .slice (some ⟨g, 0, none⟩) n cap, .int .i64 (a : Int), .int .i64 (i : Int), .int .i64 (p : Int), .pointer (some ⟨g, p * 12, none⟩), .agg Xp.toArray, .pointer (some ⟨g, p * 12, none⟩), .pointer (some ⟨g, q * 12, none⟩)], defers := [] } W') :
    (Code.region 3 #[{ dst := some 16, op := Op.move (Operand.tmp 0), type := 85, pos := "zsortanyfunc.go:331", after := #[], guard := none }, { dst := some 17, op := Op.move (Operand.tmp 1), type := 3, pos := "zsortanyfunc.go:331", after := #[], guard := none }, { dst := some 18, op := Op.move (Operand.tmp 10), type := 3, pos := "zsortanyfunc.go:331", after := #[], guard := none }, { dst := some 19, op := Op.binOp BinOp.add 3 (Operand.tmp 17) (Operand.tmp 18) 3, type := 3, pos := "zsortanyfunc.go:331", after := #[{ on := 1, ground := Ground.data }, { on := 2, ground := Ground.data }], guard := none }, { dst := some 20, op := Op.move (Operand.tmp 0), type := 85, pos := "zsortanyfunc.go:331", after := #[{ on := 21, ground := Ground.gcOnly Departure.lateStores }], guard := none }, { dst := some 21, op := Op.move (Operand.tmp 2), type := 3, pos := "zsortanyfunc.go:331", after := #[{ on := 21, ground := Ground.gcOnly Departure.lateStores }], guard := none }, { dst := some 22, op := Op.move (Operand.tmp 10), type := 3, pos := "zsortanyfunc.go:331", after := #[{ on := 21, ground := Ground.gcOnly Departure.lateStores }], guard := none }, { dst := some 23, op := Op.binOp BinOp.add 3 (Operand.tmp 21) (Operand.tmp 22) 3, type := 3, pos := "zsortanyfunc.go:331", after := #[{ on := 5, ground := Ground.data }, { on := 6, ground := Ground.data }, { on := 21, ground := Ground.gcOnly Departure.lateStores }], guard := none }, { dst := some 24, op := Op.move (Operand.tmp 0), type := 85, pos := "zsortanyfunc.go:331", after := #[], guard := none }, { dst := some 25, op := Op.move (Operand.tmp 2), type := 3, pos := "zsortanyfunc.go:331", after := #[], guard := none }, { dst := some 26, op := Op.move (Operand.tmp 10), type := 3, pos := "zsortanyfunc.go:331", after := #[], guard := none }, { dst := some 27, op := Op.binOp BinOp.add 3 (Operand.tmp 25) (Operand.tmp 26) 3, type := 3, pos := "zsortanyfunc.go:331", after := #[{ on := 9, ground := Ground.data }, { on := 10, ground := Ground.data }], guard := none }, { dst := some 28, op := Op.indexAddr 85 (Operand.tmp 24) (Operand.tmp 27), type := 0, pos := "zsortanyfunc.go:331", after := #[{ on := 8, ground := Ground.data }, { on := 11, ground := Ground.data }], guard := none }, { dst := some 29, op := Op.load 92 (Operand.tmp 28), type := 92, pos := "zsortanyfunc.go:331", after := #[{ on := 12, ground := Ground.data }], guard := none }, { dst := some 30, op := Op.move (Operand.tmp 0), type := 85, pos := "zsortanyfunc.go:331", after := #[], guard := none }, { dst := some 31, op := Op.move (Operand.tmp 1), type := 3, pos := "zsortanyfunc.go:331", after := #[], guard := none }, { dst := some 32, op := Op.move (Operand.tmp 10), type := 3, pos := "zsortanyfunc.go:331", after := #[], guard := none }, { dst := some 33, op := Op.binOp BinOp.add 3 (Operand.tmp 31) (Operand.tmp 32) 3, type := 3, pos := "zsortanyfunc.go:331", after := #[{ on := 15, ground := Ground.data }, { on := 16, ground := Ground.data }], guard := none }, { dst := some 34, op := Op.indexAddr 85 (Operand.tmp 30) (Operand.tmp 33), type := 0, pos := "zsortanyfunc.go:331", after := #[{ on := 14, ground := Ground.data }, { on := 17, ground := Ground.data }], guard := none }, { dst := some 35, op := Op.load 92 (Operand.tmp 34), type := 92, pos := "zsortanyfunc.go:331", after := #[{ on := 18, ground := Ground.data }], guard := none }, { dst := some 36, op := Op.indexAddr 85 (Operand.tmp 16) (Operand.tmp 19), type := 0, pos := "zsortanyfunc.go:331", after := #[{ on := 0, ground := Ground.data }, { on := 3, ground := Ground.data }, { on := 0, ground := Ground.phase }, { on := 1, ground := Ground.phase }, { on := 2, ground := Ground.phase }, { on := 3, ground := Ground.phase }, { on := 4, ground := Ground.textOnly Departure.lateStores }, { on := 5, ground := Ground.textOnly Departure.lateStores }, { on := 6, ground := Ground.textOnly Departure.lateStores }, { on := 7, ground := Ground.textOnly Departure.lateStores }, { on := 8, ground := Ground.phase }, { on := 9, ground := Ground.phase }, { on := 10, ground := Ground.phase }, { on := 11, ground := Ground.phase }, { on := 12, ground := Ground.phase }, { on := 13, ground := Ground.phase }, { on := 14, ground := Ground.textOnly Departure.lateStores }, { on := 15, ground := Ground.textOnly Departure.lateStores }, { on := 16, ground := Ground.textOnly Departure.lateStores }, { on := 17, ground := Ground.textOnly Departure.lateStores }, { on := 18, ground := Ground.textOnly Departure.lateStoresUnsure }, { on := 19, ground := Ground.phase }], guard := none }, { dst := none, op := Op.store 92 (Operand.tmp 36) (Operand.tmp 29), type := 0, pos := "zsortanyfunc.go:331", after := #[{ on := 20, ground := Ground.data }, { on := 13, ground := Ground.data }, { on := 0, ground := Ground.phase }, { on := 1, ground := Ground.phase }, { on := 2, ground := Ground.phase }, { on := 3, ground := Ground.phase }, { on := 4, ground := Ground.textOnly Departure.lateStores }, { on := 5, ground := Ground.textOnly Departure.lateStores }, { on := 6, ground := Ground.textOnly Departure.lateStores }, { on := 7, ground := Ground.textOnly Departure.lateStores }, { on := 8, ground := Ground.phase }, { on := 9, ground := Ground.phase }, { on := 10, ground := Ground.phase }, { on := 11, ground := Ground.phase }, { on := 12, ground := Ground.phase }, { on := 13, ground := Ground.phase }, { on := 14, ground := Ground.textOnly Departure.lateStores }, { on := 15, ground := Ground.textOnly Departure.lateStores }, { on := 16, ground := Ground.textOnly Departure.lateStores }, { on := 17, ground := Ground.textOnly Departure.lateStores }, { on := 18, ground := Ground.textOnly Departure.lateStoresUnsure }, { on := 19, ground := Ground.phase }], guard := none }, { dst := some 37, op := Op.indexAddr 85 (Operand.tmp 20) (Operand.tmp 23), type := 0, pos := "zsortanyfunc.go:331", after := #[{ on := 4, ground := Ground.data }, { on := 7, ground := Ground.data }, { on := 0, ground := Ground.phase }, { on := 1, ground := Ground.phase }, { on := 2, ground := Ground.phase }, { on := 3, ground := Ground.phase }, { on := 4, ground := Ground.phase }, { on := 5, ground := Ground.phase }, { on := 6, ground := Ground.phase }, { on := 7, ground := Ground.phase }, { on := 8, ground := Ground.phase }, { on := 9, ground := Ground.phase }, { on := 10, ground := Ground.phase }, { on := 11, ground := Ground.phase }, { on := 12, ground := Ground.phase }, { on := 13, ground := Ground.phase }, { on := 14, ground := Ground.phase }, { on := 15, ground := Ground.phase }, { on := 16, ground := Ground.phase }, { on := 17, ground := Ground.phase }, { on := 18, ground := Ground.phase }, { on := 19, ground := Ground.phase }, { on := 20, ground := Ground.phase }, { on := 21, ground := Ground.phase }], guard := none }, { dst := none, op := Op.store 92 (Operand.tmp 37) (Operand.tmp 35), type := 0, pos := "zsortanyfunc.go:331", after := #[{ on := 22, ground := Ground.data }, { on := 19, ground := Ground.data }, { on := 21, ground := Ground.chain }, { on := 0, ground := Ground.phase }, { on := 1, ground := Ground.phase }, { on := 2, ground := Ground.phase }, { on := 3, ground := Ground.phase }, { on := 4, ground := Ground.phase }, { on := 5, ground := Ground.phase }, { on := 6, ground := Ground.phase }, { on := 7, ground := Ground.phase }, { on := 8, ground := Ground.phase }, { on := 9, ground := Ground.phase }, { on := 10, ground := Ground.phase }, { on := 11, ground := Ground.phase }, { on := 12, ground := Ground.phase }, { on := 13, ground := Ground.phase }, { on := 14, ground := Ground.phase }, { on := 15, ground := Ground.phase }, { on := 16, ground := Ground.phase }, { on := 17, ground := Ground.phase }, { on := 18, ground := Ground.phase }, { on := 19, ground := Ground.phase }, { on := 20, ground := Ground.phase }, { on := 21, ground := Ground.phase }], guard := none }] true).wp Tryz.prog Q { tmps := #[.slice (some ⟨g, 0, none⟩) n cap, .int .i64 (a : Int), .int .i64 (b : Int), u3, u4, u5, u6, u7, u8, u9, .int .i64 (i : Int), u11, u12, u13, u14, u15, u16, u17, u18, u19, u20, u21, u22, u23, u24, u25, u26, u27, u28, u29, u30, u31, u32, u33, u34, u35, u36, u37], defers := [] } w := by
  have HK := Lib.hid hk
  have HRp := Lib.hid hrp
  have HRq := Lib.hid hrq
  have HTp : Hid (w.drew.there g (p * 12) Xq.toArray.size) := Lib.hid (by rw [List.size_toArray, hXq]; exact htp)
  have HTq : Hid ((w.drew.setCells g (p * 12) Xq).there g (q * 12) Xp.toArray.size) := Lib.hid (by rw [List.size_toArray, hXp]; exact World.there_setCells htq _ _ _)
  have HSp : Hid ((Tryz.prog.info? 92).map (·.size) = some Xp.length) := Lib.hid (by rw [hXp]; kernel_rfl)
  have HSq : Hid ((Tryz.prog.info? 92).map (·.size) = some Xq.length) := Lib.hid (by rw [hXq]; kernel_rfl)
  have HSp' : Hid ((Tryz.prog.info? 92).map (·.size) = some Xp.toArray.size) := Lib.hid (by rw [List.size_toArray, hXp]; kernel_rfl)
  have HSq' : Hid ((Tryz.prog.info? 92).map (·.size) = some Xq.toArray.size) := Lib.hid (by rw [List.size_toArray, hXq]; kernel_rfl)
  have HOp := Lib.hid hOp
  have HOq := Lib.hid hOq
  clear hk hrp hrq htp htq hXp hXq hOp hOq
  refine wp_region_held_drew (S := fun _ => True) (by kernel_rfl) (trivial) (fun hHeld => ?_)
  refine tk 0 hHeld ?_ (hQ := fun c a w h => hQ c a _ _ w h)
  refine tk 1 hHeld ?_ (hQ := fun c a w h => hQ c a _ _ w h)
  refine tk 2 hHeld ?_ (hQ := fun c a w h => hQ c a _ _ w h)
  refine tk 3 hHeld ?_ (hQ := fun c a w h => hQ c a _ _ w h)
  refine tk 4 hHeld ?_ (hQ := fun c a w h => hQ c a _ _ w h)
  refine tk 5 hHeld ?_ (hQ := fun c a w h => hQ c a _ _ w h)
  refine tk 6 hHeld ?_ (hQ := fun c a w h => hQ c a _ _ w h)
  refine tk 7 hHeld ?_ (hQ := fun c a w h => hQ c a _ _ w h)
  refine tk 8 hHeld ?_ (hQ := fun c a w h => hQ c a _ _ w h)
  refine tk 9 hHeld ?_ (hQ := fun c a w h => hQ c a _ _ w h)
  refine tk 10 hHeld ?_ (hQ := fun c a w h => hQ c a _ _ w h)
  refine tk 11 hHeld ?_ (hQ := fun c a w h => hQ c a _ _ w h)
  refine tk 12 hHeld ?_ (hQ := fun c a w h => hQ c a _ _ w h)
  refine tk 14 hHeld ?_ (hQ := fun c a w h => hQ c a _ _ w h)
  refine tk 15 hHeld ?_ (hQ := fun c a w h => hQ c a _ _ w h)
  refine tk 16 hHeld ?_ (hQ := fun c a w h => hQ c a _ _ w h)
  refine tk 17 hHeld ?_ (hQ := fun c a w h => hQ c a _ _ w h)
  refine tk 18 hHeld ?_ (hQ := fun c a w h => hQ c a _ _ w h)
  refine wpAnyH_ready (rs := [13, 19]) (by kernel_rfl) (by simp) ?_
  refine AllReadyH.cons rfl (fun K hK => ?_) (AllReadyH.cons rfl (fun K hK => ?_) AllReadyH.nil)
  · rw [if_pos (by rfl)]
    refine wp_load_mid 92 (.tmp 28) rfl g (q * 12) rfl Xq _ HRq.out Tryz.underlying92 rfl HSq.out ?_
    refine hK.out _ _ trivial (fun hHeld => ?_)
    clear hK K
    simp only [Act.put, List.getElem_toArray, List.getElem_cons_zero, List.getElem_cons_succ, List.setIfInBounds_toArray, List.set_cons_zero, List.set_cons_succ]
    refine rd 19 (fun K hK => ?_)
    rw [if_pos (by rfl)]
    refine wp_load_mid 92 (.tmp 34) rfl g (p * 12) rfl Xp _ HRp.out Tryz.underlying92 rfl HSp.out ?_
    refine hK.out _ _ trivial (fun hHeld => ?_)
    clear hK K
    simp only [Act.put, List.getElem_toArray, List.getElem_cons_zero, List.getElem_cons_succ, List.setIfInBounds_toArray, List.set_cons_zero, List.set_cons_succ]
    refine tk 20 hHeld ?_ (hQ := fun c a w h => hQ c a _ _ w h)
    refine rd 21 (fun K hK => ?_)
    rw [if_pos (by rfl)]
    refine wp_store_mid 92 (.tmp 36) (.tmp 29) rfl g (p * 12) Xq.toArray rfl rfl HTp.out HSq'.out HOq.out ?_
    refine hK.out _ _ trivial (fun hHeld => ?_)
    clear hK K
    simp only [Act.put, List.getElem_toArray, List.getElem_cons_zero, List.getElem_cons_succ]
    refine tk 22 hHeld ?_ (hQ := fun c a w h => hQ c a _ _ w h)
    refine rd 23 (fun K hK => ?_)
    rw [if_pos (by rfl)]
    refine wp_store_mid 92 (.tmp 37) (.tmp 35) rfl g (q * 12) Xp.toArray rfl rfl HTq.out HSp'.out HOp.out ?_
    refine hK.out _ _ trivial (fun hHeld => ?_)
    clear hK K
    simp only [Act.put, List.getElem_toArray, List.getElem_cons_zero, List.getElem_cons_succ]
    refine wpAnyH_done (by kernel_rfl) ?_ _
    exact HK.out _ rfl
  · rw [if_pos (by rfl)]
    refine wp_load_mid 92 (.tmp 34) rfl g (p * 12) rfl Xp _ HRp.out Tryz.underlying92 rfl HSp.out ?_
    refine hK.out _ _ trivial (fun hHeld => ?_)
    clear hK K
    simp only [Act.put, List.getElem_toArray, List.getElem_cons_zero, List.getElem_cons_succ, List.setIfInBounds_toArray, List.set_cons_zero, List.set_cons_succ]
    refine rd 13 (fun K hK => ?_)
    rw [if_pos (by rfl)]
    refine wp_load_mid 92 (.tmp 28) rfl g (q * 12) rfl Xq _ HRq.out Tryz.underlying92 rfl HSq.out ?_
    refine hK.out _ _ trivial (fun hHeld => ?_)
    clear hK K
    simp only [Act.put, List.getElem_toArray, List.getElem_cons_zero, List.getElem_cons_succ, List.setIfInBounds_toArray, List.set_cons_zero, List.set_cons_succ]
    refine tk 20 hHeld ?_ (hQ := fun c a w h => hQ c a _ _ w h)
    refine rd 21 (fun K hK => ?_)
    rw [if_pos (by rfl)]
    refine wp_store_mid 92 (.tmp 36) (.tmp 29) rfl g (p * 12) Xq.toArray rfl rfl HTp.out HSq'.out HOq.out ?_
    refine hK.out _ _ trivial (fun hHeld => ?_)
    clear hK K
    simp only [Act.put, List.getElem_toArray, List.getElem_cons_zero, List.getElem_cons_succ]
    refine tk 22 hHeld ?_ (hQ := fun c a w h => hQ c a _ _ w h)
    refine rd 23 (fun K hK => ?_)
    rw [if_pos (by rfl)]
    refine wp_store_mid 92 (.tmp 37) (.tmp 35) rfl g (q * 12) Xp.toArray rfl rfl HTq.out HSp'.out HOp.out ?_
    refine hK.out _ _ trivial (fun hHeld => ?_)
    clear hK K
    simp only [Act.put, List.getElem_toArray, List.getElem_cons_zero, List.getElem_cons_succ]
    refine wpAnyH_done (by kernel_rfl) ?_ _
    exact HK.out _ rfl

set_option maxHeartbeats 8000000 in
set_option maxRecDepth 100000 in
theorem swap_rev {u1 u4 u5 u6 u7 u8 u9 u10 u11 u12 u13 u14 u15 u16 u17 u18 u19 u20 u21 u22 u23 u24 u25 u26 u27 : Value} {Q : Exit → Go.Act → World → Prop} {g n cap : Nat} {p q : Nat} {Xp Xq : List Value}  {w : World}
    (hQ : ∀ c a d v w, Q (.panic c) (a.put d v) w → Q (.panic c) a w)
    
    (hp0 : (0 : Int) ≤ (p : Int)) (hp1 : (p : Int) < (n : Int)) (hq0 : (0 : Int) ≤ (q : Int)) (hq1 : (q : Int) < (n : Int))
    (hXp : Xp.length = 12) (hXq : Xq.length = 12) (hOp : Xp.toArray.all (·.oneCell') = true) (hOq : Xq.toArray.all (·.oneCell') = true)
    (hrp : w.drew.rangeAt g (p * 12) Xp) (hrq : w.drew.rangeAt g (q * 12) Xq) (htp : w.drew.there g (p * 12) 12) (htq : w.drew.there g (q * 12) 12)
    (hk : ∀ W', W' = ((w.drew.setCells g (p * 12) Xq).setCells g (q * 12) Xp) → Q .normal { tmps := #[.slice (some ⟨g, 0, none⟩) n cap, u1, .int .i64 (p : Int), .int .i64 (q : Int), u4, u5, u6, u7, u8, u9, u10, u11, u12, u13, .slice (some ⟨g, 0, none⟩) n cap, .int .i64 (p : Int), .slice (some ⟨g, 0, none⟩) n cap, .int .i64 (q : Int), .slice (some ⟨g, 0, none⟩) n cap, .int .i64 (q : Int), .pointer (some ⟨g, q * 12, none⟩), .agg Xq.toArray, .slice (some ⟨g, 0, none⟩) n cap, .int .i64 (p : Int), .pointer (some ⟨g, p * 12, none⟩), .agg Xp.toArray, .pointer (some ⟨g, p * 12, none⟩), .pointer (some ⟨g, q * 12, none⟩)], defers := [] } W') :
    (Code.region 3 #[{ dst := some 14, op := Op.move (Operand.tmp 0), type := 85, pos := "slices.go:485", after := #[], guard := none }, { dst := some 15, op := Op.move (Operand.tmp 2), type := 3, pos := "slices.go:485", after := #[], guard := none }, { dst := some 16, op := Op.move (Operand.tmp 0), type := 85, pos := "slices.go:485", after := #[{ on := 13, ground := Ground.gcOnly Departure.lateStores }], guard := none }, { dst := some 17, op := Op.move (Operand.tmp 3), type := 3, pos := "slices.go:485", after := #[{ on := 13, ground := Ground.gcOnly Departure.lateStores }], guard := none }, { dst := some 18, op := Op.move (Operand.tmp 0), type := 85, pos := "slices.go:485", after := #[], guard := none }, { dst := some 19, op := Op.move (Operand.tmp 3), type := 3, pos := "slices.go:485", after := #[], guard := none }, { dst := some 20, op := Op.indexAddr 85 (Operand.tmp 18) (Operand.tmp 19), type := 0, pos := "slices.go:485", after := #[{ on := 4, ground := Ground.data }, { on := 5, ground := Ground.data }], guard := none }, { dst := some 21, op := Op.load 92 (Operand.tmp 20), type := 92, pos := "slices.go:485", after := #[{ on := 6, ground := Ground.data }], guard := none }, { dst := some 22, op := Op.move (Operand.tmp 0), type := 85, pos := "slices.go:485", after := #[], guard := none }, { dst := some 23, op := Op.move (Operand.tmp 2), type := 3, pos := "slices.go:485", after := #[], guard := none }, { dst := some 24, op := Op.indexAddr 85 (Operand.tmp 22) (Operand.tmp 23), type := 0, pos := "slices.go:485", after := #[{ on := 8, ground := Ground.data }, { on := 9, ground := Ground.data }], guard := none }, { dst := some 25, op := Op.load 92 (Operand.tmp 24), type := 92, pos := "slices.go:485", after := #[{ on := 10, ground := Ground.data }], guard := none }, { dst := some 26, op := Op.indexAddr 85 (Operand.tmp 14) (Operand.tmp 15), type := 0, pos := "slices.go:485", after := #[{ on := 0, ground := Ground.data }, { on := 1, ground := Ground.data }, { on := 0, ground := Ground.phase }, { on := 1, ground := Ground.phase }, { on := 2, ground := Ground.textOnly Departure.lateStores }, { on := 3, ground := Ground.textOnly Departure.lateStores }, { on := 4, ground := Ground.phase }, { on := 5, ground := Ground.phase }, { on := 6, ground := Ground.phase }, { on := 7, ground := Ground.phase }, { on := 8, ground := Ground.textOnly Departure.lateStores }, { on := 9, ground := Ground.textOnly Departure.lateStores }, { on := 10, ground := Ground.textOnly Departure.lateStoresUnsure }, { on := 11, ground := Ground.phase }], guard := none }, { dst := none, op := Op.store 92 (Operand.tmp 26) (Operand.tmp 21), type := 0, pos := "slices.go:485", after := #[{ on := 12, ground := Ground.data }, { on := 7, ground := Ground.data }, { on := 0, ground := Ground.phase }, { on := 1, ground := Ground.phase }, { on := 2, ground := Ground.textOnly Departure.lateStores }, { on := 3, ground := Ground.textOnly Departure.lateStores }, { on := 4, ground := Ground.phase }, { on := 5, ground := Ground.phase }, { on := 6, ground := Ground.phase }, { on := 7, ground := Ground.phase }, { on := 8, ground := Ground.textOnly Departure.lateStores }, { on := 9, ground := Ground.textOnly Departure.lateStores }, { on := 10, ground := Ground.textOnly Departure.lateStoresUnsure }, { on := 11, ground := Ground.phase }], guard := none }, { dst := some 27, op := Op.indexAddr 85 (Operand.tmp 16) (Operand.tmp 17), type := 0, pos := "slices.go:485", after := #[{ on := 2, ground := Ground.data }, { on := 3, ground := Ground.data }, { on := 0, ground := Ground.phase }, { on := 1, ground := Ground.phase }, { on := 2, ground := Ground.phase }, { on := 3, ground := Ground.phase }, { on := 4, ground := Ground.phase }, { on := 5, ground := Ground.phase }, { on := 6, ground := Ground.phase }, { on := 7, ground := Ground.phase }, { on := 8, ground := Ground.phase }, { on := 9, ground := Ground.phase }, { on := 10, ground := Ground.phase }, { on := 11, ground := Ground.phase }, { on := 12, ground := Ground.phase }, { on := 13, ground := Ground.phase }], guard := none }, { dst := none, op := Op.store 92 (Operand.tmp 27) (Operand.tmp 25), type := 0, pos := "slices.go:485", after := #[{ on := 14, ground := Ground.data }, { on := 11, ground := Ground.data }, { on := 13, ground := Ground.chain }, { on := 0, ground := Ground.phase }, { on := 1, ground := Ground.phase }, { on := 2, ground := Ground.phase }, { on := 3, ground := Ground.phase }, { on := 4, ground := Ground.phase }, { on := 5, ground := Ground.phase }, { on := 6, ground := Ground.phase }, { on := 7, ground := Ground.phase }, { on := 8, ground := Ground.phase }, { on := 9, ground := Ground.phase }, { on := 10, ground := Ground.phase }, { on := 11, ground := Ground.phase }, { on := 12, ground := Ground.phase }, { on := 13, ground := Ground.phase }], guard := none }] true).wp Tryz.prog Q { tmps := #[.slice (some ⟨g, 0, none⟩) n cap, u1, .int .i64 (p : Int), .int .i64 (q : Int), u4, u5, u6, u7, u8, u9, u10, u11, u12, u13, u14, u15, u16, u17, u18, u19, u20, u21, u22, u23, u24, u25, u26, u27], defers := [] } w := by
  have HK := Lib.hid hk
  have HRp := Lib.hid hrp
  have HRq := Lib.hid hrq
  have HTp : Hid (w.drew.there g (p * 12) Xq.toArray.size) := Lib.hid (by rw [List.size_toArray, hXq]; exact htp)
  have HTq : Hid ((w.drew.setCells g (p * 12) Xq).there g (q * 12) Xp.toArray.size) := Lib.hid (by rw [List.size_toArray, hXp]; exact World.there_setCells htq _ _ _)
  have HSp : Hid ((Tryz.prog.info? 92).map (·.size) = some Xp.length) := Lib.hid (by rw [hXp]; kernel_rfl)
  have HSq : Hid ((Tryz.prog.info? 92).map (·.size) = some Xq.length) := Lib.hid (by rw [hXq]; kernel_rfl)
  have HSp' : Hid ((Tryz.prog.info? 92).map (·.size) = some Xp.toArray.size) := Lib.hid (by rw [List.size_toArray, hXp]; kernel_rfl)
  have HSq' : Hid ((Tryz.prog.info? 92).map (·.size) = some Xq.toArray.size) := Lib.hid (by rw [List.size_toArray, hXq]; kernel_rfl)
  have HOp := Lib.hid hOp
  have HOq := Lib.hid hOq
  clear hk hrp hrq htp htq hXp hXq hOp hOq
  refine wp_region_held_drew (S := fun _ => True) (by kernel_rfl) (trivial) (fun hHeld => ?_)
  refine tk 0 hHeld ?_ (hQ := fun c a w h => hQ c a _ _ w h)
  refine tk 1 hHeld ?_ (hQ := fun c a w h => hQ c a _ _ w h)
  refine tk 2 hHeld ?_ (hQ := fun c a w h => hQ c a _ _ w h)
  refine tk 3 hHeld ?_ (hQ := fun c a w h => hQ c a _ _ w h)
  refine tk 4 hHeld ?_ (hQ := fun c a w h => hQ c a _ _ w h)
  refine tk 5 hHeld ?_ (hQ := fun c a w h => hQ c a _ _ w h)
  refine tk 6 hHeld ?_ (hQ := fun c a w h => hQ c a _ _ w h)
  refine tk 8 hHeld ?_ (hQ := fun c a w h => hQ c a _ _ w h)
  refine tk 9 hHeld ?_ (hQ := fun c a w h => hQ c a _ _ w h)
  refine tk 10 hHeld ?_ (hQ := fun c a w h => hQ c a _ _ w h)
  refine wpAnyH_ready (rs := [7, 11]) (by kernel_rfl) (by simp) ?_
  refine AllReadyH.cons rfl (fun K hK => ?_) (AllReadyH.cons rfl (fun K hK => ?_) AllReadyH.nil)
  · rw [if_pos (by rfl)]
    refine wp_load_mid 92 (.tmp 20) rfl g (q * 12) rfl Xq _ HRq.out Tryz.underlying92 rfl HSq.out ?_
    refine hK.out _ _ trivial (fun hHeld => ?_)
    clear hK K
    simp only [Act.put, List.getElem_toArray, List.getElem_cons_zero, List.getElem_cons_succ, List.setIfInBounds_toArray, List.set_cons_zero, List.set_cons_succ]
    refine rd 11 (fun K hK => ?_)
    rw [if_pos (by rfl)]
    refine wp_load_mid 92 (.tmp 24) rfl g (p * 12) rfl Xp _ HRp.out Tryz.underlying92 rfl HSp.out ?_
    refine hK.out _ _ trivial (fun hHeld => ?_)
    clear hK K
    simp only [Act.put, List.getElem_toArray, List.getElem_cons_zero, List.getElem_cons_succ, List.setIfInBounds_toArray, List.set_cons_zero, List.set_cons_succ]
    refine tk 12 hHeld ?_ (hQ := fun c a w h => hQ c a _ _ w h)
    refine rd 13 (fun K hK => ?_)
    rw [if_pos (by rfl)]
    refine wp_store_mid 92 (.tmp 26) (.tmp 21) rfl g (p * 12) Xq.toArray rfl rfl HTp.out HSq'.out HOq.out ?_
    refine hK.out _ _ trivial (fun hHeld => ?_)
    clear hK K
    simp only [Act.put, List.getElem_toArray, List.getElem_cons_zero, List.getElem_cons_succ]
    refine tk 14 hHeld ?_ (hQ := fun c a w h => hQ c a _ _ w h)
    refine rd 15 (fun K hK => ?_)
    rw [if_pos (by rfl)]
    refine wp_store_mid 92 (.tmp 27) (.tmp 25) rfl g (q * 12) Xp.toArray rfl rfl HTq.out HSp'.out HOp.out ?_
    refine hK.out _ _ trivial (fun hHeld => ?_)
    clear hK K
    simp only [Act.put, List.getElem_toArray, List.getElem_cons_zero, List.getElem_cons_succ]
    refine wpAnyH_done (by kernel_rfl) ?_ _
    exact HK.out _ rfl
  · rw [if_pos (by rfl)]
    refine wp_load_mid 92 (.tmp 24) rfl g (p * 12) rfl Xp _ HRp.out Tryz.underlying92 rfl HSp.out ?_
    refine hK.out _ _ trivial (fun hHeld => ?_)
    clear hK K
    simp only [Act.put, List.getElem_toArray, List.getElem_cons_zero, List.getElem_cons_succ, List.setIfInBounds_toArray, List.set_cons_zero, List.set_cons_succ]
    refine rd 7 (fun K hK => ?_)
    rw [if_pos (by rfl)]
    refine wp_load_mid 92 (.tmp 20) rfl g (q * 12) rfl Xq _ HRq.out Tryz.underlying92 rfl HSq.out ?_
    refine hK.out _ _ trivial (fun hHeld => ?_)
    clear hK K
    simp only [Act.put, List.getElem_toArray, List.getElem_cons_zero, List.getElem_cons_succ, List.setIfInBounds_toArray, List.set_cons_zero, List.set_cons_succ]
    refine tk 12 hHeld ?_ (hQ := fun c a w h => hQ c a _ _ w h)
    refine rd 13 (fun K hK => ?_)
    rw [if_pos (by rfl)]
    refine wp_store_mid 92 (.tmp 26) (.tmp 21) rfl g (p * 12) Xq.toArray rfl rfl HTp.out HSq'.out HOq.out ?_
    refine hK.out _ _ trivial (fun hHeld => ?_)
    clear hK K
    simp only [Act.put, List.getElem_toArray, List.getElem_cons_zero, List.getElem_cons_succ]
    refine tk 14 hHeld ?_ (hQ := fun c a w h => hQ c a _ _ w h)
    refine rd 15 (fun K hK => ?_)
    rw [if_pos (by rfl)]
    refine wp_store_mid 92 (.tmp 27) (.tmp 25) rfl g (q * 12) Xp.toArray rfl rfl HTq.out HSp'.out HOp.out ?_
    refine hK.out _ _ trivial (fun hHeld => ?_)
    clear hK K
    simp only [Act.put, List.getElem_toArray, List.getElem_cons_zero, List.getElem_cons_succ]
    refine wpAnyH_done (by kernel_rfl) ?_ _
    exact HK.out _ rfl

set_option maxHeartbeats 8000000 in
set_option maxRecDepth 100000 in
theorem swap_syA {u1 u2 u3 u4 u5 u6 u7 u8 u9 u10 u11 u12 u14 u15 u16 u17 u18 u19 u20 u21 u22 u23 u24 u25 u26 u27 u28 u29 u30 u31 u32 u33 u34 u35 u36 u37 u38 u39 u40 u41 u42 u43 u44 u45 u46 u47 u48 u49 u50 u51 u52 u53 u54 u55 u56 u57 u58 u59 u60 u61 u62 u63 u64 u65 u66 u67 u68 u69 u70 u71 u72 u73 u74 u75 u76 u77 u78 u79 u80 u81 u82 u83 u84 u85 u86 u87 u88 u89 u90 u91 u92 u93 u94 u95 u96 u97 u98 u99 u100 u101 u102 u103 u104 u105 u106 u107 u108 u109 u110 u111 u112 u113 u114 u115 u116 u117 u118 u119 u120 u121 u122 u123 u124 u125 u126 u127 u128 u129 u130 u131 u132 u133 u134 u135 u136 u137 u138 u139 u140 u141 u142 u143 u144 u145 u146 u147 u148 u149 u150 u151 u152 u153 u154 u155 u156 u157 u158 u159 u160 u161 u162 u163 u164 u165 u166 u167 u168 u169 u170 u171 u172 u173 u174 u175 u176 u177 u178 u179 u180 u181 u182 u183 u184 u185 u186 u187 u188 u189 u190 u191 u192 u193 u194 u195 u196 u197 u198 u199 u200 u201 u202 u203 u204 u205 u206 u207 u208 u209 u210 u211 u212 u213 u214 u215 u216 u217 u218 u219 : Value} {Q : Exit → Go.Act → World → Prop} {g n cap : Nat} {p q : Nat} {Xp Xq : List Value}  {w : World}
    (hQ : ∀ c a d v w, Q (.panic c) (a.put d v) w → Q (.panic c) a w)
    (hw : IntKind.i64.wrap ((p : Int) + 1) = (q : Int))
    (hp0 : (0 : Int) ≤ (p : Int)) (hp1 : (p : Int) < (n : Int)) (hq0 : (0 : Int) ≤ (q : Int)) (hq1 : (q : Int) < (n : Int))
    (hXp : Xp.length = 12) (hXq : Xq.length = 12) (hOp : Xp.toArray.all (·.oneCell') = true) (hOq : Xq.toArray.all (·.oneCell') = true)
    (hrp : w.drew.rangeAt g (p * 12) Xp) (hrq : w.drew.rangeAt g (q * 12) Xq) (htp : w.drew.there g (p * 12) 12) (htq : w.drew.there g (q * 12) 12)
    (hk : ∀ W', W' = ((w.drew.setCells g (p * 12) Xq).setCells g (q * 12) Xp) → Q .normal { tmps := #[.slice (some ⟨g, 0, none⟩) n cap, u1, u2, u3, u4, u5, u6, u7, u8, u9, u10, u11, u12, .int .i64 (p : Int), u14, u15, u16, u17, u18, u19, u20, u21, u22, u23, u24, u25, u26, u27, u28, u29, u30, u31, u32, u33, u34, u35, u36, u37, u38, u39, u40, u41, u42, u43, u44, u45, u46, u47, u48, u49, u50, u51, u52, u53, u54, u55, u56, u57, u58, u59, u60, .slice (some ⟨g, 0, none⟩) n cap, .int .i64 (p : Int), .slice (some ⟨g, 0, none⟩) n cap, .int .i64 (p : Int), .int .i64 (q : Int), .slice (some ⟨g, 0, none⟩) n cap, .int .i64 (p : Int), .int .i64 (q : Int), .pointer (some ⟨g, q * 12, none⟩), .agg Xq.toArray, .slice (some ⟨g, 0, none⟩) n cap, .int .i64 (p : Int), .pointer (some ⟨g, p * 12, none⟩), .agg Xp.toArray, .pointer (some ⟨g, p * 12, none⟩), .pointer (some ⟨g, q * 12, none⟩), u77, u78, u79, u80, u81, u82, u83, u84, u85, u86, u87, u88, u89, u90, u91, u92, u93, u94, u95, u96, u97, u98, u99, u100, u101, u102, u103, u104, u105, u106, u107, u108, u109, u110, u111, u112, u113, u114, u115, u116, u117, u118, u119, u120, u121, u122, u123, u124, u125, u126, u127, u128, u129, u130, u131, u132, u133, u134, u135, u136, u137, u138, u139, u140, u141, u142, u143, u144, u145, u146, u147, u148, u149, u150, u151, u152, u153, u154, u155, u156, u157, u158, u159, u160, u161, u162, u163, u164, u165, u166, u167, u168, u169, u170, u171, u172, u173, u174, u175, u176, u177, u178, u179, u180, u181, u182, u183, u184, u185, u186, u187, u188, u189, u190, u191, u192, u193, u194, u195, u196, u197, u198, u199, u200, u201, u202, u203, u204, u205, u206, u207, u208, u209, u210, u211, u212, u213, u214, u215, u216, u217, u218, u219], defers := [] } W') :
    (Code.region 11 #[{ dst := some 61, op := Op.move (Operand.tmp 0), type := 85, pos := "zsortanyfunc.go:398", after := #[], guard := none }, { dst := some 62, op := Op.move (Operand.tmp 13), type := 3, pos := "zsortanyfunc.go:398", after := #[], guard := none }, { dst := some 63, op := Op.move (Operand.tmp 0), type := 85, pos := "zsortanyfunc.go:398", after := #[{ on := 15, ground := Ground.gcOnly Departure.lateStores }], guard := none }, { dst := some 64, op := Op.move (Operand.tmp 13), type := 3, pos := "zsortanyfunc.go:398", after := #[{ on := 15, ground := Ground.gcOnly Departure.lateStores }], guard := none }, { dst := some 65, op := Op.binOp BinOp.add 3 (Operand.tmp 64) (Operand.const (Value.int IntKind.i64 1)) 3, type := 3, pos := "zsortanyfunc.go:398", after := #[{ on := 3, ground := Ground.data }, { on := 15, ground := Ground.gcOnly Departure.lateStores }], guard := none }, { dst := some 66, op := Op.move (Operand.tmp 0), type := 85, pos := "zsortanyfunc.go:398", after := #[], guard := none }, { dst := some 67, op := Op.move (Operand.tmp 13), type := 3, pos := "zsortanyfunc.go:398", after := #[], guard := none }, { dst := some 68, op := Op.binOp BinOp.add 3 (Operand.tmp 67) (Operand.const (Value.int IntKind.i64 1)) 3, type := 3, pos := "zsortanyfunc.go:398", after := #[{ on := 6, ground := Ground.data }], guard := none }, { dst := some 69, op := Op.indexAddr 85 (Operand.tmp 66) (Operand.tmp 68), type := 0, pos := "zsortanyfunc.go:398", after := #[{ on := 5, ground := Ground.data }, { on := 7, ground := Ground.data }], guard := none }, { dst := some 70, op := Op.load 92 (Operand.tmp 69), type := 92, pos := "zsortanyfunc.go:398", after := #[{ on := 8, ground := Ground.data }], guard := none }, { dst := some 71, op := Op.move (Operand.tmp 0), type := 85, pos := "zsortanyfunc.go:398", after := #[], guard := none }, { dst := some 72, op := Op.move (Operand.tmp 13), type := 3, pos := "zsortanyfunc.go:398", after := #[], guard := none }, { dst := some 73, op := Op.indexAddr 85 (Operand.tmp 71) (Operand.tmp 72), type := 0, pos := "zsortanyfunc.go:398", after := #[{ on := 10, ground := Ground.data }, { on := 11, ground := Ground.data }], guard := none }, { dst := some 74, op := Op.load 92 (Operand.tmp 73), type := 92, pos := "zsortanyfunc.go:398", after := #[{ on := 12, ground := Ground.data }], guard := none }, { dst := some 75, op := Op.indexAddr 85 (Operand.tmp 61) (Operand.tmp 62), type := 0, pos := "zsortanyfunc.go:398", after := #[{ on := 0, ground := Ground.data }, { on := 1, ground := Ground.data }, { on := 0, ground := Ground.phase }, { on := 1, ground := Ground.phase }, { on := 2, ground := Ground.textOnly Departure.lateStores }, { on := 3, ground := Ground.textOnly Departure.lateStores }, { on := 4, ground := Ground.textOnly Departure.lateStores }, { on := 5, ground := Ground.phase }, { on := 6, ground := Ground.phase }, { on := 7, ground := Ground.phase }, { on := 8, ground := Ground.phase }, { on := 9, ground := Ground.phase }, { on := 10, ground := Ground.textOnly Departure.lateStores }, { on := 11, ground := Ground.textOnly Departure.lateStores }, { on := 12, ground := Ground.textOnly Departure.lateStoresUnsure }, { on := 13, ground := Ground.phase }], guard := none }, { dst := none, op := Op.store 92 (Operand.tmp 75) (Operand.tmp 70), type := 0, pos := "zsortanyfunc.go:398", after := #[{ on := 14, ground := Ground.data }, { on := 9, ground := Ground.data }, { on := 0, ground := Ground.phase }, { on := 1, ground := Ground.phase }, { on := 2, ground := Ground.textOnly Departure.lateStores }, { on := 3, ground := Ground.textOnly Departure.lateStores }, { on := 4, ground := Ground.textOnly Departure.lateStores }, { on := 5, ground := Ground.phase }, { on := 6, ground := Ground.phase }, { on := 7, ground := Ground.phase }, { on := 8, ground := Ground.phase }, { on := 9, ground := Ground.phase }, { on := 10, ground := Ground.textOnly Departure.lateStores }, { on := 11, ground := Ground.textOnly Departure.lateStores }, { on := 12, ground := Ground.textOnly Departure.lateStoresUnsure }, { on := 13, ground := Ground.phase }], guard := none }, { dst := some 76, op := Op.indexAddr 85 (Operand.tmp 63) (Operand.tmp 65), type := 0, pos := "zsortanyfunc.go:398", after := #[{ on := 2, ground := Ground.data }, { on := 4, ground := Ground.data }, { on := 0, ground := Ground.phase }, { on := 1, ground := Ground.phase }, { on := 2, ground := Ground.phase }, { on := 3, ground := Ground.phase }, { on := 4, ground := Ground.phase }, { on := 5, ground := Ground.phase }, { on := 6, ground := Ground.phase }, { on := 7, ground := Ground.phase }, { on := 8, ground := Ground.phase }, { on := 9, ground := Ground.phase }, { on := 10, ground := Ground.phase }, { on := 11, ground := Ground.phase }, { on := 12, ground := Ground.phase }, { on := 13, ground := Ground.phase }, { on := 14, ground := Ground.phase }, { on := 15, ground := Ground.phase }], guard := none }, { dst := none, op := Op.store 92 (Operand.tmp 76) (Operand.tmp 74), type := 0, pos := "zsortanyfunc.go:398", after := #[{ on := 16, ground := Ground.data }, { on := 13, ground := Ground.data }, { on := 15, ground := Ground.chain }, { on := 0, ground := Ground.phase }, { on := 1, ground := Ground.phase }, { on := 2, ground := Ground.phase }, { on := 3, ground := Ground.phase }, { on := 4, ground := Ground.phase }, { on := 5, ground := Ground.phase }, { on := 6, ground := Ground.phase }, { on := 7, ground := Ground.phase }, { on := 8, ground := Ground.phase }, { on := 9, ground := Ground.phase }, { on := 10, ground := Ground.phase }, { on := 11, ground := Ground.phase }, { on := 12, ground := Ground.phase }, { on := 13, ground := Ground.phase }, { on := 14, ground := Ground.phase }, { on := 15, ground := Ground.phase }], guard := none }] true).wp Tryz.prog Q { tmps := #[.slice (some ⟨g, 0, none⟩) n cap, u1, u2, u3, u4, u5, u6, u7, u8, u9, u10, u11, u12, .int .i64 (p : Int), u14, u15, u16, u17, u18, u19, u20, u21, u22, u23, u24, u25, u26, u27, u28, u29, u30, u31, u32, u33, u34, u35, u36, u37, u38, u39, u40, u41, u42, u43, u44, u45, u46, u47, u48, u49, u50, u51, u52, u53, u54, u55, u56, u57, u58, u59, u60, u61, u62, u63, u64, u65, u66, u67, u68, u69, u70, u71, u72, u73, u74, u75, u76, u77, u78, u79, u80, u81, u82, u83, u84, u85, u86, u87, u88, u89, u90, u91, u92, u93, u94, u95, u96, u97, u98, u99, u100, u101, u102, u103, u104, u105, u106, u107, u108, u109, u110, u111, u112, u113, u114, u115, u116, u117, u118, u119, u120, u121, u122, u123, u124, u125, u126, u127, u128, u129, u130, u131, u132, u133, u134, u135, u136, u137, u138, u139, u140, u141, u142, u143, u144, u145, u146, u147, u148, u149, u150, u151, u152, u153, u154, u155, u156, u157, u158, u159, u160, u161, u162, u163, u164, u165, u166, u167, u168, u169, u170, u171, u172, u173, u174, u175, u176, u177, u178, u179, u180, u181, u182, u183, u184, u185, u186, u187, u188, u189, u190, u191, u192, u193, u194, u195, u196, u197, u198, u199, u200, u201, u202, u203, u204, u205, u206, u207, u208, u209, u210, u211, u212, u213, u214, u215, u216, u217, u218, u219], defers := [] } w := by
  have HK := Lib.hid hk
  have HRp := Lib.hid hrp
  have HRq := Lib.hid hrq
  have HTp : Hid (w.drew.there g (p * 12) Xq.toArray.size) := Lib.hid (by rw [List.size_toArray, hXq]; exact htp)
  have HTq : Hid ((w.drew.setCells g (p * 12) Xq).there g (q * 12) Xp.toArray.size) := Lib.hid (by rw [List.size_toArray, hXp]; exact World.there_setCells htq _ _ _)
  have HSp : Hid ((Tryz.prog.info? 92).map (·.size) = some Xp.length) := Lib.hid (by rw [hXp]; kernel_rfl)
  have HSq : Hid ((Tryz.prog.info? 92).map (·.size) = some Xq.length) := Lib.hid (by rw [hXq]; kernel_rfl)
  have HSp' : Hid ((Tryz.prog.info? 92).map (·.size) = some Xp.toArray.size) := Lib.hid (by rw [List.size_toArray, hXp]; kernel_rfl)
  have HSq' : Hid ((Tryz.prog.info? 92).map (·.size) = some Xq.toArray.size) := Lib.hid (by rw [List.size_toArray, hXq]; kernel_rfl)
  have HOp := Lib.hid hOp
  have HOq := Lib.hid hOq
  clear hk hrp hrq htp htq hXp hXq hOp hOq
  refine wp_region_held_drew (S := fun _ => True) (by kernel_rfl) (trivial) (fun hHeld => ?_)
  refine tk 0 hHeld ?_ (hQ := fun c a w h => hQ c a _ _ w h)
  refine tk 1 hHeld ?_ (hQ := fun c a w h => hQ c a _ _ w h)
  refine tk 2 hHeld ?_ (hQ := fun c a w h => hQ c a _ _ w h)
  refine tk 3 hHeld ?_ (hQ := fun c a w h => hQ c a _ _ w h)
  refine tk 4 hHeld ?_ (hQ := fun c a w h => hQ c a _ _ w h)
  refine tk 5 hHeld ?_ (hQ := fun c a w h => hQ c a _ _ w h)
  refine tk 6 hHeld ?_ (hQ := fun c a w h => hQ c a _ _ w h)
  refine tk 7 hHeld ?_ (hQ := fun c a w h => hQ c a _ _ w h)
  refine tk 8 hHeld ?_ (hQ := fun c a w h => hQ c a _ _ w h)
  refine tk 10 hHeld ?_ (hQ := fun c a w h => hQ c a _ _ w h)
  refine tk 11 hHeld ?_ (hQ := fun c a w h => hQ c a _ _ w h)
  refine tk 12 hHeld ?_ (hQ := fun c a w h => hQ c a _ _ w h)
  refine wpAnyH_ready (rs := [9, 13]) (by kernel_rfl) (by simp) ?_
  refine AllReadyH.cons rfl (fun K hK => ?_) (AllReadyH.cons rfl (fun K hK => ?_) AllReadyH.nil)
  · rw [if_pos (by rfl)]
    refine wp_load_mid 92 (.tmp 69) rfl g (q * 12) rfl Xq _ HRq.out Tryz.underlying92 rfl HSq.out ?_
    refine hK.out _ _ trivial (fun hHeld => ?_)
    clear hK K
    simp only [Act.put, List.getElem_toArray, List.getElem_cons_zero, List.getElem_cons_succ, List.setIfInBounds_toArray, List.set_cons_zero, List.set_cons_succ]
    refine rd 13 (fun K hK => ?_)
    rw [if_pos (by rfl)]
    refine wp_load_mid 92 (.tmp 73) rfl g (p * 12) rfl Xp _ HRp.out Tryz.underlying92 rfl HSp.out ?_
    refine hK.out _ _ trivial (fun hHeld => ?_)
    clear hK K
    simp only [Act.put, List.getElem_toArray, List.getElem_cons_zero, List.getElem_cons_succ, List.setIfInBounds_toArray, List.set_cons_zero, List.set_cons_succ]
    refine tk 14 hHeld ?_ (hQ := fun c a w h => hQ c a _ _ w h)
    refine rd 15 (fun K hK => ?_)
    rw [if_pos (by rfl)]
    refine wp_store_mid 92 (.tmp 75) (.tmp 70) rfl g (p * 12) Xq.toArray rfl rfl HTp.out HSq'.out HOq.out ?_
    refine hK.out _ _ trivial (fun hHeld => ?_)
    clear hK K
    simp only [Act.put, List.getElem_toArray, List.getElem_cons_zero, List.getElem_cons_succ]
    refine tk 16 hHeld ?_ (hQ := fun c a w h => hQ c a _ _ w h)
    refine rd 17 (fun K hK => ?_)
    rw [if_pos (by rfl)]
    refine wp_store_mid 92 (.tmp 76) (.tmp 74) rfl g (q * 12) Xp.toArray rfl rfl HTq.out HSp'.out HOp.out ?_
    refine hK.out _ _ trivial (fun hHeld => ?_)
    clear hK K
    simp only [Act.put, List.getElem_toArray, List.getElem_cons_zero, List.getElem_cons_succ]
    refine wpAnyH_done (by kernel_rfl) ?_ _
    exact HK.out _ rfl
  · rw [if_pos (by rfl)]
    refine wp_load_mid 92 (.tmp 73) rfl g (p * 12) rfl Xp _ HRp.out Tryz.underlying92 rfl HSp.out ?_
    refine hK.out _ _ trivial (fun hHeld => ?_)
    clear hK K
    simp only [Act.put, List.getElem_toArray, List.getElem_cons_zero, List.getElem_cons_succ, List.setIfInBounds_toArray, List.set_cons_zero, List.set_cons_succ]
    refine rd 9 (fun K hK => ?_)
    rw [if_pos (by rfl)]
    refine wp_load_mid 92 (.tmp 69) rfl g (q * 12) rfl Xq _ HRq.out Tryz.underlying92 rfl HSq.out ?_
    refine hK.out _ _ trivial (fun hHeld => ?_)
    clear hK K
    simp only [Act.put, List.getElem_toArray, List.getElem_cons_zero, List.getElem_cons_succ, List.setIfInBounds_toArray, List.set_cons_zero, List.set_cons_succ]
    refine tk 14 hHeld ?_ (hQ := fun c a w h => hQ c a _ _ w h)
    refine rd 15 (fun K hK => ?_)
    rw [if_pos (by rfl)]
    refine wp_store_mid 92 (.tmp 75) (.tmp 70) rfl g (p * 12) Xq.toArray rfl rfl HTp.out HSq'.out HOq.out ?_
    refine hK.out _ _ trivial (fun hHeld => ?_)
    clear hK K
    simp only [Act.put, List.getElem_toArray, List.getElem_cons_zero, List.getElem_cons_succ]
    refine tk 16 hHeld ?_ (hQ := fun c a w h => hQ c a _ _ w h)
    refine rd 17 (fun K hK => ?_)
    rw [if_pos (by rfl)]
    refine wp_store_mid 92 (.tmp 76) (.tmp 74) rfl g (q * 12) Xp.toArray rfl rfl HTq.out HSp'.out HOp.out ?_
    refine hK.out _ _ trivial (fun hHeld => ?_)
    clear hK K
    simp only [Act.put, List.getElem_toArray, List.getElem_cons_zero, List.getElem_cons_succ]
    refine wpAnyH_done (by kernel_rfl) ?_ _
    exact HK.out _ rfl

set_option maxHeartbeats 8000000 in
set_option maxRecDepth 100000 in
theorem swap_syB {u1 u2 u3 u4 u5 u6 u7 u8 u9 u10 u11 u12 u13 u14 u15 u16 u18 u19 u20 u21 u22 u23 u24 u25 u26 u27 u28 u29 u30 u31 u32 u33 u34 u35 u36 u37 u38 u39 u40 u41 u42 u43 u44 u45 u46 u47 u48 u49 u50 u51 u52 u53 u54 u55 u56 u57 u58 u59 u60 u61 u62 u63 u64 u65 u66 u67 u68 u69 u70 u71 u72 u73 u74 u75 u76 u77 u78 u79 u80 u81 u82 u83 u84 u85 u86 u87 u88 u89 u90 u91 u92 u93 u94 u95 u96 u97 u98 u99 u100 u101 u102 u103 u104 u105 u106 u107 u108 u109 u110 u111 u112 u113 u114 u115 u116 u117 u118 u119 u120 u121 u122 u123 u124 u125 u126 u127 u128 u129 u130 u131 u132 u133 u134 u135 u136 u137 u138 u139 u140 u141 u142 u143 u144 u145 u146 u147 u148 u149 u150 u151 u152 u153 u154 u155 u156 u157 u158 u159 u160 u161 u162 u163 u164 u165 u166 u167 u168 u169 u170 u171 u172 u173 u174 u175 u176 u177 u178 u179 u180 u181 u182 u183 u184 u185 u186 u187 u188 u189 u190 u191 u192 u193 u194 u195 u196 u197 u198 u199 u200 u201 u202 u203 u204 u205 u206 u207 u208 u209 u210 u211 u212 u213 u214 u215 u216 u217 u218 u219 : Value} {Q : Exit → Go.Act → World → Prop} {g n cap : Nat} {p q : Nat} {Xp Xq : List Value}  {w : World}
    (hQ : ∀ c a d v w, Q (.panic c) (a.put d v) w → Q (.panic c) a w)
    (hw : IntKind.i64.wrap ((p : Int) - 1) = (q : Int))
    (hp0 : (0 : Int) ≤ (p : Int)) (hp1 : (p : Int) < (n : Int)) (hq0 : (0 : Int) ≤ (q : Int)) (hq1 : (q : Int) < (n : Int))
    (hXp : Xp.length = 12) (hXq : Xq.length = 12) (hOp : Xp.toArray.all (·.oneCell') = true) (hOq : Xq.toArray.all (·.oneCell') = true)
    (hrp : w.drew.rangeAt g (p * 12) Xp) (hrq : w.drew.rangeAt g (q * 12) Xq) (htp : w.drew.there g (p * 12) 12) (htq : w.drew.there g (q * 12) 12)
    (hk : ∀ W', W' = ((w.drew.setCells g (p * 12) Xq).setCells g (q * 12) Xp) → Q .normal { tmps := #[.slice (some ⟨g, 0, none⟩) n cap, u1, u2, u3, u4, u5, u6, u7, u8, u9, u10, u11, u12, u13, u14, u15, u16, .int .i64 (p : Int), u18, u19, u20, u21, u22, u23, u24, u25, u26, u27, u28, u29, u30, u31, u32, u33, u34, u35, u36, u37, u38, u39, u40, u41, u42, u43, u44, u45, u46, u47, u48, u49, u50, u51, u52, u53, u54, u55, u56, u57, u58, u59, u60, u61, u62, u63, u64, u65, u66, u67, u68, u69, u70, u71, u72, u73, u74, u75, u76, u77, u78, u79, u80, u81, u82, u83, u84, u85, u86, u87, u88, u89, u90, u91, u92, u93, u94, u95, u96, u97, u98, u99, u100, u101, u102, u103, u104, u105, u106, u107, u108, u109, u110, u111, u112, .slice (some ⟨g, 0, none⟩) n cap, .int .i64 (p : Int), .slice (some ⟨g, 0, none⟩) n cap, .int .i64 (p : Int), .int .i64 (q : Int), .slice (some ⟨g, 0, none⟩) n cap, .int .i64 (p : Int), .int .i64 (q : Int), .pointer (some ⟨g, q * 12, none⟩), .agg Xq.toArray, .slice (some ⟨g, 0, none⟩) n cap, .int .i64 (p : Int), .pointer (some ⟨g, p * 12, none⟩), .agg Xp.toArray, .pointer (some ⟨g, p * 12, none⟩), .pointer (some ⟨g, q * 12, none⟩), u129, u130, u131, u132, u133, u134, u135, u136, u137, u138, u139, u140, u141, u142, u143, u144, u145, u146, u147, u148, u149, u150, u151, u152, u153, u154, u155, u156, u157, u158, u159, u160, u161, u162, u163, u164, u165, u166, u167, u168, u169, u170, u171, u172, u173, u174, u175, u176, u177, u178, u179, u180, u181, u182, u183, u184, u185, u186, u187, u188, u189, u190, u191, u192, u193, u194, u195, u196, u197, u198, u199, u200, u201, u202, u203, u204, u205, u206, u207, u208, u209, u210, u211, u212, u213, u214, u215, u216, u217, u218, u219], defers := [] } W') :
    (Code.region 23 #[{ dst := some 113, op := Op.move (Operand.tmp 0), type := 85, pos := "zsortanyfunc.go:422", after := #[], guard := none }, { dst := some 114, op := Op.move (Operand.tmp 17), type := 3, pos := "zsortanyfunc.go:422", after := #[], guard := none }, { dst := some 115, op := Op.move (Operand.tmp 0), type := 85, pos := "zsortanyfunc.go:422", after := #[{ on := 15, ground := Ground.gcOnly Departure.lateStores }], guard := none }, { dst := some 116, op := Op.move (Operand.tmp 17), type := 3, pos := "zsortanyfunc.go:422", after := #[{ on := 15, ground := Ground.gcOnly Departure.lateStores }], guard := none }, { dst := some 117, op := Op.binOp BinOp.sub 3 (Operand.tmp 116) (Operand.const (Value.int IntKind.i64 1)) 3, type := 3, pos := "zsortanyfunc.go:422", after := #[{ on := 3, ground := Ground.data }, { on := 15, ground := Ground.gcOnly Departure.lateStores }], guard := none }, { dst := some 118, op := Op.move (Operand.tmp 0), type := 85, pos := "zsortanyfunc.go:422", after := #[], guard := none }, { dst := some 119, op := Op.move (Operand.tmp 17), type := 3, pos := "zsortanyfunc.go:422", after := #[], guard := none }, { dst := some 120, op := Op.binOp BinOp.sub 3 (Operand.tmp 119) (Operand.const (Value.int IntKind.i64 1)) 3, type := 3, pos := "zsortanyfunc.go:422", after := #[{ on := 6, ground := Ground.data }], guard := none }, { dst := some 121, op := Op.indexAddr 85 (Operand.tmp 118) (Operand.tmp 120), type := 0, pos := "zsortanyfunc.go:422", after := #[{ on := 5, ground := Ground.data }, { on := 7, ground := Ground.data }], guard := none }, { dst := some 122, op := Op.load 92 (Operand.tmp 121), type := 92, pos := "zsortanyfunc.go:422", after := #[{ on := 8, ground := Ground.data }], guard := none }, { dst := some 123, op := Op.move (Operand.tmp 0), type := 85, pos := "zsortanyfunc.go:422", after := #[], guard := none }, { dst := some 124, op := Op.move (Operand.tmp 17), type := 3, pos := "zsortanyfunc.go:422", after := #[], guard := none }, { dst := some 125, op := Op.indexAddr 85 (Operand.tmp 123) (Operand.tmp 124), type := 0, pos := "zsortanyfunc.go:422", after := #[{ on := 10, ground := Ground.data }, { on := 11, ground := Ground.data }], guard := none }, { dst := some 126, op := Op.load 92 (Operand.tmp 125), type := 92, pos := "zsortanyfunc.go:422", after := #[{ on := 12, ground := Ground.data }], guard := none }, { dst := some 127, op := Op.indexAddr 85 (Operand.tmp 113) (Operand.tmp 114), type := 0, pos := "zsortanyfunc.go:422", after := #[{ on := 0, ground := Ground.data }, { on := 1, ground := Ground.data }, { on := 0, ground := Ground.phase }, { on := 1, ground := Ground.phase }, { on := 2, ground := Ground.textOnly Departure.lateStores }, { on := 3, ground := Ground.textOnly Departure.lateStores }, { on := 4, ground := Ground.textOnly Departure.lateStores }, { on := 5, ground := Ground.phase }, { on := 6, ground := Ground.phase }, { on := 7, ground := Ground.phase }, { on := 8, ground := Ground.phase }, { on := 9, ground := Ground.phase }, { on := 10, ground := Ground.textOnly Departure.lateStores }, { on := 11, ground := Ground.textOnly Departure.lateStores }, { on := 12, ground := Ground.textOnly Departure.lateStoresUnsure }, { on := 13, ground := Ground.phase }], guard := none }, { dst := none, op := Op.store 92 (Operand.tmp 127) (Operand.tmp 122), type := 0, pos := "zsortanyfunc.go:422", after := #[{ on := 14, ground := Ground.data }, { on := 9, ground := Ground.data }, { on := 0, ground := Ground.phase }, { on := 1, ground := Ground.phase }, { on := 2, ground := Ground.textOnly Departure.lateStores }, { on := 3, ground := Ground.textOnly Departure.lateStores }, { on := 4, ground := Ground.textOnly Departure.lateStores }, { on := 5, ground := Ground.phase }, { on := 6, ground := Ground.phase }, { on := 7, ground := Ground.phase }, { on := 8, ground := Ground.phase }, { on := 9, ground := Ground.phase }, { on := 10, ground := Ground.textOnly Departure.lateStores }, { on := 11, ground := Ground.textOnly Departure.lateStores }, { on := 12, ground := Ground.textOnly Departure.lateStoresUnsure }, { on := 13, ground := Ground.phase }], guard := none }, { dst := some 128, op := Op.indexAddr 85 (Operand.tmp 115) (Operand.tmp 117), type := 0, pos := "zsortanyfunc.go:422", after := #[{ on := 2, ground := Ground.data }, { on := 4, ground := Ground.data }, { on := 0, ground := Ground.phase }, { on := 1, ground := Ground.phase }, { on := 2, ground := Ground.phase }, { on := 3, ground := Ground.phase }, { on := 4, ground := Ground.phase }, { on := 5, ground := Ground.phase }, { on := 6, ground := Ground.phase }, { on := 7, ground := Ground.phase }, { on := 8, ground := Ground.phase }, { on := 9, ground := Ground.phase }, { on := 10, ground := Ground.phase }, { on := 11, ground := Ground.phase }, { on := 12, ground := Ground.phase }, { on := 13, ground := Ground.phase }, { on := 14, ground := Ground.phase }, { on := 15, ground := Ground.phase }], guard := none }, { dst := none, op := Op.store 92 (Operand.tmp 128) (Operand.tmp 126), type := 0, pos := "zsortanyfunc.go:422", after := #[{ on := 16, ground := Ground.data }, { on := 13, ground := Ground.data }, { on := 15, ground := Ground.chain }, { on := 0, ground := Ground.phase }, { on := 1, ground := Ground.phase }, { on := 2, ground := Ground.phase }, { on := 3, ground := Ground.phase }, { on := 4, ground := Ground.phase }, { on := 5, ground := Ground.phase }, { on := 6, ground := Ground.phase }, { on := 7, ground := Ground.phase }, { on := 8, ground := Ground.phase }, { on := 9, ground := Ground.phase }, { on := 10, ground := Ground.phase }, { on := 11, ground := Ground.phase }, { on := 12, ground := Ground.phase }, { on := 13, ground := Ground.phase }, { on := 14, ground := Ground.phase }, { on := 15, ground := Ground.phase }], guard := none }] true).wp Tryz.prog Q { tmps := #[.slice (some ⟨g, 0, none⟩) n cap, u1, u2, u3, u4, u5, u6, u7, u8, u9, u10, u11, u12, u13, u14, u15, u16, .int .i64 (p : Int), u18, u19, u20, u21, u22, u23, u24, u25, u26, u27, u28, u29, u30, u31, u32, u33, u34, u35, u36, u37, u38, u39, u40, u41, u42, u43, u44, u45, u46, u47, u48, u49, u50, u51, u52, u53, u54, u55, u56, u57, u58, u59, u60, u61, u62, u63, u64, u65, u66, u67, u68, u69, u70, u71, u72, u73, u74, u75, u76, u77, u78, u79, u80, u81, u82, u83, u84, u85, u86, u87, u88, u89, u90, u91, u92, u93, u94, u95, u96, u97, u98, u99, u100, u101, u102, u103, u104, u105, u106, u107, u108, u109, u110, u111, u112, u113, u114, u115, u116, u117, u118, u119, u120, u121, u122, u123, u124, u125, u126, u127, u128, u129, u130, u131, u132, u133, u134, u135, u136, u137, u138, u139, u140, u141, u142, u143, u144, u145, u146, u147, u148, u149, u150, u151, u152, u153, u154, u155, u156, u157, u158, u159, u160, u161, u162, u163, u164, u165, u166, u167, u168, u169, u170, u171, u172, u173, u174, u175, u176, u177, u178, u179, u180, u181, u182, u183, u184, u185, u186, u187, u188, u189, u190, u191, u192, u193, u194, u195, u196, u197, u198, u199, u200, u201, u202, u203, u204, u205, u206, u207, u208, u209, u210, u211, u212, u213, u214, u215, u216, u217, u218, u219], defers := [] } w := by
  have HK := Lib.hid hk
  have HRp := Lib.hid hrp
  have HRq := Lib.hid hrq
  have HTp : Hid (w.drew.there g (p * 12) Xq.toArray.size) := Lib.hid (by rw [List.size_toArray, hXq]; exact htp)
  have HTq : Hid ((w.drew.setCells g (p * 12) Xq).there g (q * 12) Xp.toArray.size) := Lib.hid (by rw [List.size_toArray, hXp]; exact World.there_setCells htq _ _ _)
  have HSp : Hid ((Tryz.prog.info? 92).map (·.size) = some Xp.length) := Lib.hid (by rw [hXp]; kernel_rfl)
  have HSq : Hid ((Tryz.prog.info? 92).map (·.size) = some Xq.length) := Lib.hid (by rw [hXq]; kernel_rfl)
  have HSp' : Hid ((Tryz.prog.info? 92).map (·.size) = some Xp.toArray.size) := Lib.hid (by rw [List.size_toArray, hXp]; kernel_rfl)
  have HSq' : Hid ((Tryz.prog.info? 92).map (·.size) = some Xq.toArray.size) := Lib.hid (by rw [List.size_toArray, hXq]; kernel_rfl)
  have HOp := Lib.hid hOp
  have HOq := Lib.hid hOq
  clear hk hrp hrq htp htq hXp hXq hOp hOq
  refine wp_region_held_drew (S := fun _ => True) (by kernel_rfl) (trivial) (fun hHeld => ?_)
  refine tk 0 hHeld ?_ (hQ := fun c a w h => hQ c a _ _ w h)
  refine tk 1 hHeld ?_ (hQ := fun c a w h => hQ c a _ _ w h)
  refine tk 2 hHeld ?_ (hQ := fun c a w h => hQ c a _ _ w h)
  refine tk 3 hHeld ?_ (hQ := fun c a w h => hQ c a _ _ w h)
  refine tk 4 hHeld ?_ (hQ := fun c a w h => hQ c a _ _ w h)
  refine tk 5 hHeld ?_ (hQ := fun c a w h => hQ c a _ _ w h)
  refine tk 6 hHeld ?_ (hQ := fun c a w h => hQ c a _ _ w h)
  refine tk 7 hHeld ?_ (hQ := fun c a w h => hQ c a _ _ w h)
  refine tk 8 hHeld ?_ (hQ := fun c a w h => hQ c a _ _ w h)
  refine tk 10 hHeld ?_ (hQ := fun c a w h => hQ c a _ _ w h)
  refine tk 11 hHeld ?_ (hQ := fun c a w h => hQ c a _ _ w h)
  refine tk 12 hHeld ?_ (hQ := fun c a w h => hQ c a _ _ w h)
  refine wpAnyH_ready (rs := [9, 13]) (by kernel_rfl) (by simp) ?_
  refine AllReadyH.cons rfl (fun K hK => ?_) (AllReadyH.cons rfl (fun K hK => ?_) AllReadyH.nil)
  · rw [if_pos (by rfl)]
    refine wp_load_mid 92 (.tmp 121) rfl g (q * 12) rfl Xq _ HRq.out Tryz.underlying92 rfl HSq.out ?_
    refine hK.out _ _ trivial (fun hHeld => ?_)
    clear hK K
    simp only [Act.put, List.getElem_toArray, List.getElem_cons_zero, List.getElem_cons_succ, List.setIfInBounds_toArray, List.set_cons_zero, List.set_cons_succ]
    refine rd 13 (fun K hK => ?_)
    rw [if_pos (by rfl)]
    refine wp_load_mid 92 (.tmp 125) rfl g (p * 12) rfl Xp _ HRp.out Tryz.underlying92 rfl HSp.out ?_
    refine hK.out _ _ trivial (fun hHeld => ?_)
    clear hK K
    simp only [Act.put, List.getElem_toArray, List.getElem_cons_zero, List.getElem_cons_succ, List.setIfInBounds_toArray, List.set_cons_zero, List.set_cons_succ]
    refine tk 14 hHeld ?_ (hQ := fun c a w h => hQ c a _ _ w h)
    refine rd 15 (fun K hK => ?_)
    rw [if_pos (by rfl)]
    refine wp_store_mid 92 (.tmp 127) (.tmp 122) rfl g (p * 12) Xq.toArray rfl rfl HTp.out HSq'.out HOq.out ?_
    refine hK.out _ _ trivial (fun hHeld => ?_)
    clear hK K
    simp only [Act.put, List.getElem_toArray, List.getElem_cons_zero, List.getElem_cons_succ]
    refine tk 16 hHeld ?_ (hQ := fun c a w h => hQ c a _ _ w h)
    refine rd 17 (fun K hK => ?_)
    rw [if_pos (by rfl)]
    refine wp_store_mid 92 (.tmp 128) (.tmp 126) rfl g (q * 12) Xp.toArray rfl rfl HTq.out HSp'.out HOp.out ?_
    refine hK.out _ _ trivial (fun hHeld => ?_)
    clear hK K
    simp only [Act.put, List.getElem_toArray, List.getElem_cons_zero, List.getElem_cons_succ]
    refine wpAnyH_done (by kernel_rfl) ?_ _
    exact HK.out _ rfl
  · rw [if_pos (by rfl)]
    refine wp_load_mid 92 (.tmp 125) rfl g (p * 12) rfl Xp _ HRp.out Tryz.underlying92 rfl HSp.out ?_
    refine hK.out _ _ trivial (fun hHeld => ?_)
    clear hK K
    simp only [Act.put, List.getElem_toArray, List.getElem_cons_zero, List.getElem_cons_succ, List.setIfInBounds_toArray, List.set_cons_zero, List.set_cons_succ]
    refine rd 9 (fun K hK => ?_)
    rw [if_pos (by rfl)]
    refine wp_load_mid 92 (.tmp 121) rfl g (q * 12) rfl Xq _ HRq.out Tryz.underlying92 rfl HSq.out ?_
    refine hK.out _ _ trivial (fun hHeld => ?_)
    clear hK K
    simp only [Act.put, List.getElem_toArray, List.getElem_cons_zero, List.getElem_cons_succ, List.setIfInBounds_toArray, List.set_cons_zero, List.set_cons_succ]
    refine tk 14 hHeld ?_ (hQ := fun c a w h => hQ c a _ _ w h)
    refine rd 15 (fun K hK => ?_)
    rw [if_pos (by rfl)]
    refine wp_store_mid 92 (.tmp 127) (.tmp 122) rfl g (p * 12) Xq.toArray rfl rfl HTp.out HSq'.out HOq.out ?_
    refine hK.out _ _ trivial (fun hHeld => ?_)
    clear hK K
    simp only [Act.put, List.getElem_toArray, List.getElem_cons_zero, List.getElem_cons_succ]
    refine tk 16 hHeld ?_ (hQ := fun c a w h => hQ c a _ _ w h)
    refine rd 17 (fun K hK => ?_)
    rw [if_pos (by rfl)]
    refine wp_store_mid 92 (.tmp 128) (.tmp 126) rfl g (q * 12) Xp.toArray rfl rfl HTq.out HSp'.out HOp.out ?_
    refine hK.out _ _ trivial (fun hHeld => ?_)
    clear hK K
    simp only [Act.put, List.getElem_toArray, List.getElem_cons_zero, List.getElem_cons_succ]
    refine wpAnyH_done (by kernel_rfl) ?_ _
    exact HK.out _ rfl

end Go.Proofs.YthhfcedhbfandaaGreat
