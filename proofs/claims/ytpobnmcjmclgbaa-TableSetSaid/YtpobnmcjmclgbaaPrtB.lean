/-
  Parts as one list of twenty-four cells; what the reference's lay of layer 6 answers.
-/
import Derived.Test.YtpobnmcjmclgbaaPrtA
namespace Go.Proofs.Ytpobnmcjmclgbaa
open Go.RowKit

/-- the cells of parts -/
def PL (h : Int) (M : Nat → Int) (m : Int) (B : Nat → Int) (p a : Int) (c : Bool) (l : Int) : List Value := [.int .i64 h, .int .i64 (M 0), .int .i64 (M 1), .int .i64 (M 2), .int .i64 (M 3), .int .i64 (M 4), .int .i64 (M 5), .int .i64 (M 6), .int .i64 (M 7), .int .i64 (M 8), .int .i64 (M 9), .int .i64 (M 10), .int .i64 (M 11), .int .i64 m, .int .i64 (B 0), .int .i64 (B 1), .int .i64 (B 2), .int .i64 (B 3), .int .i64 (B 4), .int .i64 (B 5), .int .i64 p, .int .i64 a, .bool c, .int .i64 l]
theorem PL_len (h : Int) (M : Nat → Int) (m : Int) (B : Nat → Int) (p a : Int) (c : Bool) (l : Int) : (PL h M m B p a c l).length = 24 := rfl
theorem PL_one (h : Int) (M : Nat → Int) (m : Int) (B : Nat → Int) (p a : Int) (c : Bool) (l : Int) : (PL h M m B p a c l).toArray.all (·.oneCell') = true := all_oneCell_toArray (fun v hv => by
  unfold PL at hv
  simp only [List.mem_cons, List.not_mem_nil, or_false] at hv
  rcases hv with rfl | rfl | rfl | rfl | rfl | rfl | rfl | rfl | rfl | rfl | rfl | rfl | rfl | rfl | rfl | rfl | rfl | rfl | rfl | rfl | rfl | rfl | rfl | rfl <;> rfl)
theorem size_parts (h : Int) (M : Nat → Int) (m : Int) (B : Nat → Int) (p a : Int) (c : Bool) (l : Int) : (Try.prog.info? 39).map (·.size) = some (PL h M m B p a c l).length := by rw [PL_len]; kernel_rfl
/-- a block that holds parts -/
def BP (w : World) (g : Nat) (X : List Value) : Prop := Blk w g 39 X.toArray
def Z24 : List Value := PL 0 (fun _ => 0) 0 (fun _ => 0) 0 0 false 0

theorem results_cell {fn : Func} {tmps : Array Value} {s : Tmp} {t : TypeId} {g : Nat} {v : Value} {w : World} (hr : fn.results = #[.cell s t]) (hp : tmps.getD s undef = .pointer (some ⟨g, 0, none⟩)) (hl : (loadVar t ⟨g, 0, none⟩).run Try.prog w = .ok v w) : (results fn tmps).run Try.prog w = .ok v w := by
  unfold results
  rw [hr]
  have hp' : tmps[s]?.getD undef = .pointer (some ⟨g, 0, none⟩) := by simpa using hp
  simp [hp', hl, asAddr]
theorem results_cell2 {fn : Func} {tmps : Array Value} {s r : Tmp} {t : TypeId} {g : Nat} {v u : Value} {w : World} (hr : fn.results = #[.cell s t, .tmp r]) (hp : tmps.getD s undef = .pointer (some ⟨g, 0, none⟩)) (hu : tmps.getD r undef = u) (hl : (loadVar t ⟨g, 0, none⟩).run Try.prog w = .ok v w) : (results fn tmps).run Try.prog w = .ok (.tuple #[v, u]) w := by
  unfold results
  rw [hr]
  have hp' : tmps[s]?.getD undef = .pointer (some ⟨g, 0, none⟩) := by simpa using hp
  have hu' : tmps[r]?.getD undef = u := by simpa using hu
  simp [hp', hu', hl, asAddr]

set_option maxHeartbeats 1000000 in
theorem rlay_hide (h : Int) (M : Nat → Int) (m : Int) (B : Nat → Int) (p a : Int) (c : Bool) (l : Int) (Y : List Value) (k : Int) (w : World) (hk : k < 0 ∨ 3 < k) :
    Calls Try.prog 19 #[.agg (PL h M m B p a c l).toArray, .agg Y.toArray, .int .i64 k] w fun e w' => e = .returned (.agg (PL h M m B p a c l).toArray) ∧ Below w.heap.size w w' := by
  have hn0 : (k == 0) = false := by simp; omega
  have hn1 : (k == 1) = false := by simp; omega
  have hn2 : (k == 2) = false := by simp; omega
  have hn3 : (k == 3) = false := by simp; omega
  have HS := Lib.hid (size_parts h M m B p a c l)
  have HO := Lib.hid (PL_one h M m B p a c l)
  have HL := Lib.hid (PL_len h M m B p a c l)
  obtain ⟨X, hX⟩ : ∃ X, X = PL h M m B p a c l := ⟨_, rfl⟩
  rw [← hX] at HS HO HL
  rw [← hX]
  clear hX
  have KP := Lib.hid (fun o => ((Blk.new w 39 X.toArray).alloc (.cells Y.toArray 39)).alloc o)
  have KR := Lib.hid (blkAt (Blk.new ((w.alloc (.cells X.toArray 39)).alloc (.cells Y.toArray 39)) 39 Z24.toArray) (g' := w.heap.size + 1 + 1) (by simp))
  have HZ := Lib.hid (show Z24.length = 24 from rfl)
  go_enter Try.func19, Try.ntmps19
  go_wp2_with (first | refine wpList_store_mid rfl 39 (.tmp 6) (.tmp 37) rfl (w.heap.size + 1 + 1) 0 X.toArray rfl rfl (blk_there KR.out (by simp [HL.out, HZ.out])) (by simpa using HS.out) HO.out ?_ | refine wpList_load_mid rfl 39 (.tmp 3) rfl w.heap.size 0 rfl X _ (blk_whole (KP.out _)) Try.underlying39 rfl HS.out ?_)
  have KW := Lib.hid (splice_all (X := X) (Z := Z24) (by rw [HL.out, HZ.out]) ▸ blk_setCells X KR.out (by rw [HL.out, HZ.out]; exact Nat.le_refl _))
  refine fin (fun W => Blk W (w.heap.size + 1 + 1) 39 X.toArray ∧ Below w.heap.size w W) ⟨KW.out, below_setCells X (balloc (balloc (alloc_below _ _) _) _) (by omega)⟩ ?_
  rintro W ⟨kr, hb⟩
  have hl := run_loadVar_mid W (w.heap.size + 1 + 1) 0 39 X _ (blk_whole kr) Try.underlying39 rfl HS.out
  simp only [Act.put, List.setIfInBounds_toArray, List.set_cons_zero, List.set_cons_succ]
  exact bodyPost_ret (v := .agg X.toArray) (results_cell Try.results19 rfl hl) rfl ⟨rfl, hb⟩

/-! the other kinds -/
set_option maxHeartbeats 1000000 in
theorem rlay_place (X Y X' : List Value) (V : List Value) (hV : (Y.drop 1).take 12 = V) (hV2 : V.length = 12) (hV3 : V.toArray.all (·.oneCell') = true) (hs : splice X 1 V = X') (w : World) (hX : X.length = 24) (hX' : X'.length = 24) (ho : X'.toArray.all (·.oneCell') = true) :
    Calls Try.prog 19 #[.agg X.toArray, .agg Y.toArray, .int .i64 0] w fun e w' => e = .returned (.agg X'.toArray) ∧ Below w.heap.size w w' := by
  have HO := Lib.hid ho
  have HS : Hid ((Try.prog.info? 39).map (·.size) = some X'.length) := Lib.hid (by rw [hX']; kernel_rfl)
  have HS' : Hid ((Try.prog.info? 39).map (·.size) = some X'.toArray.size) := Lib.hid (by rw [List.size_toArray, hX']; kernel_rfl)
  have HZ : Hid (0 + X'.toArray.size ≤ Z24.length) := Lib.hid (by rw [List.size_toArray, hX']; exact Nat.le_refl 24)
  have HZ2 : Hid (0 + X'.length ≤ Z24.length) := Lib.hid (by rw [hX']; exact Nat.le_refl 24)
  have HZ3 : Hid (X'.length = Z24.length) := Lib.hid (by rw [hX']; rfl)
  have K0 := Lib.hid (((Blk.new w 39 X.toArray).alloc (.cells Y.toArray 39)).alloc (.cells Z24.toArray 39))
  have KQ := Lib.hid (blkAt ((Blk.new (w.alloc (.cells X.toArray 39)) 39 Y.toArray).alloc (.cells Z24.toArray 39)) (g' := w.heap.size + 1) (by simp))
  have KR := Lib.hid (blkAt (Blk.new ((w.alloc (.cells X.toArray 39)).alloc (.cells Y.toArray 39)) 39 Z24.toArray) (g' := w.heap.size + 1 + 1) (by simp))
  have HS2 : Hid ((Try.prog.info? 33).map (·.size) = some V.length) := Lib.hid (by rw [hV2]; kernel_rfl)
  have HS3 : Hid ((Try.prog.info? 33).map (·.size) = some V.toArray.size) := Lib.hid (by rw [List.size_toArray, hV2]; kernel_rfl)
  have HO3 := Lib.hid hV3
  have HR3 : Hid ((((w.alloc (.cells X.toArray 39)).alloc (.cells Y.toArray 39)).alloc (.cells Z24.toArray 39)).rangeAt (w.heap.size + 1) 1 V) := Lib.hid (hV ▸ blk_range KQ.out 1 12)
  have HT3 : Hid ((((w.alloc (.cells X.toArray 39)).alloc (.cells Y.toArray 39)).alloc (.cells Z24.toArray 39)).there w.heap.size 1 V.toArray.size) := Lib.hid (blk_there K0.out (by rw [List.size_toArray, hV2, hX]; omega))
  have KP2 : Hid (Blk ((((w.alloc (.cells X.toArray 39)).alloc (.cells Y.toArray 39)).alloc (.cells Z24.toArray 39)).setCells w.heap.size 1 V) w.heap.size 39 X'.toArray) := Lib.hid (hs ▸ blk_setCells V K0.out (by rw [hV2, hX]; omega))
  have KR2 : Hid (Blk ((((w.alloc (.cells X.toArray 39)).alloc (.cells Y.toArray 39)).alloc (.cells Z24.toArray 39)).setCells w.heap.size 1 V) (w.heap.size + 1 + 1) 39 Z24.toArray) := Lib.hid (blk_setFar V KR.out (by omega))
  have HB2 : Hid (Below w.heap.size w ((((w.alloc (.cells X.toArray 39)).alloc (.cells Y.toArray 39)).alloc (.cells Z24.toArray 39)).setCells w.heap.size 1 V)) := Lib.hid (below_setCells V (balloc (balloc (alloc_below _ _) _) _) (Nat.le_refl _))
  clear ho hX hX'
  go_enter Try.func19, Try.ntmps19
  go_wp2_with (first | refine wpList_load_mid rfl 33 (.tmp 10) rfl (w.heap.size + 1) 1 rfl V _ HR3.out Try.underlying33 rfl HS2.out ?_ | refine wpList_store_mid rfl 33 (.tmp 12) (.tmp 11) rfl w.heap.size 1 V.toArray rfl rfl HT3.out HS3.out HO3.out ?_ | refine wpList_store_mid rfl 39 (.tmp 6) (.tmp 37) rfl (w.heap.size + 1 + 1) 0 X'.toArray rfl rfl (blk_there KR2.out HZ.out) HS'.out HO.out ?_ | refine wpList_load_mid rfl 39 (.tmp 3) rfl w.heap.size 0 rfl X' _ (blk_whole KP2.out) Try.underlying39 rfl HS.out ?_)
  have KW := Lib.hid (splice_all HZ3.out ▸ blk_setCells X' KR2.out HZ2.out)
  refine fin (fun W => Blk W (w.heap.size + 1 + 1) 39 X'.toArray ∧ Below w.heap.size w W) ⟨KW.out, below_setCells _ HB2.out (by omega)⟩ ?_
  rintro W ⟨kr, hb⟩
  have hl := run_loadVar_mid W (w.heap.size + 1 + 1) 0 39 X' _ (blk_whole kr) Try.underlying39 rfl HS.out
  simp only [Act.put, List.setIfInBounds_toArray, List.set_cons_zero, List.set_cons_succ]
  exact bodyPost_ret (v := .agg X'.toArray) (results_cell Try.results19 rfl hl) rfl ⟨rfl, hb⟩

set_option maxHeartbeats 1000000 in
theorem rlay_shape (X Y X' : List Value) (V : List Value) (m2 : Int) (x13 : Value) (hx13 : X[13]? = some x13) (hy13 : Y[13]? = some (.int .i64 m2)) (hV : (Y.drop 14).take 6 = V) (hV2 : V.length = 6) (hV3 : V.toArray.all (·.oneCell') = true) (hs : splice (X.set 13 (.int .i64 m2)) 14 V = X') (w : World) (hX : X.length = 24) (hX' : X'.length = 24) (ho : X'.toArray.all (·.oneCell') = true) :
    Calls Try.prog 19 #[.agg X.toArray, .agg Y.toArray, .int .i64 1] w fun e w' => e = .returned (.agg X'.toArray) ∧ Below w.heap.size w w' := by
  have HO := Lib.hid ho
  have HS : Hid ((Try.prog.info? 39).map (·.size) = some X'.length) := Lib.hid (by rw [hX']; kernel_rfl)
  have HS' : Hid ((Try.prog.info? 39).map (·.size) = some X'.toArray.size) := Lib.hid (by rw [List.size_toArray, hX']; kernel_rfl)
  have HZ : Hid (0 + X'.toArray.size ≤ Z24.length) := Lib.hid (by rw [List.size_toArray, hX']; exact Nat.le_refl 24)
  have HZ2 : Hid (0 + X'.length ≤ Z24.length) := Lib.hid (by rw [hX']; exact Nat.le_refl 24)
  have HZ3 : Hid (X'.length = Z24.length) := Lib.hid (by rw [hX']; rfl)
  have K0 := Lib.hid (((Blk.new w 39 X.toArray).alloc (.cells Y.toArray 39)).alloc (.cells Z24.toArray 39))
  have KQ := Lib.hid (blkAt ((Blk.new (w.alloc (.cells X.toArray 39)) 39 Y.toArray).alloc (.cells Z24.toArray 39)) (g' := w.heap.size + 1) (by simp))
  have KR := Lib.hid (blkAt (Blk.new ((w.alloc (.cells X.toArray 39)).alloc (.cells Y.toArray 39)) 39 Z24.toArray) (g' := w.heap.size + 1 + 1) (by simp))
  have HS2 : Hid ((Try.prog.info? 37).map (·.size) = some V.length) := Lib.hid (by rw [hV2]; kernel_rfl)
  have HS3 : Hid ((Try.prog.info? 37).map (·.size) = some V.toArray.size) := Lib.hid (by rw [List.size_toArray, hV2]; kernel_rfl)
  have HO3 := Lib.hid hV3
  have q13 : (((w.alloc (.cells X.toArray 39)).alloc (.cells Y.toArray 39)).alloc (.cells Z24.toArray 39)).cell? ⟨w.heap.size + 1, 13, none⟩ = some (.int .i64 m2) := by rw [KQ.out.cell 13]; simpa using hy13
  have p13 : (((w.alloc (.cells X.toArray 39)).alloc (.cells Y.toArray 39)).alloc (.cells Z24.toArray 39)).cell? ⟨w.heap.size, 13, none⟩ = some x13 := by rw [K0.out.cell 13]; simpa using hx13
  have f13 : (((w.alloc (.cells X.toArray 39)).alloc (.cells Y.toArray 39)).alloc (.cells Z24.toArray 39)).frozen? ⟨w.heap.size, 13, none⟩ = false := K0.out.frozen 13
  have K1 : Hid (Blk (((w.alloc (.cells (X.set 13 (.int .i64 m2)).toArray 39)).alloc (.cells Y.toArray 39)).alloc (.cells Z24.toArray 39)) w.heap.size 39 (X.set 13 (.int .i64 m2)).toArray) := Lib.hid (((Blk.new w 39 (X.set 13 (.int .i64 m2)).toArray).alloc (.cells Y.toArray 39)).alloc (.cells Z24.toArray 39))
  have HR3 : Hid ((((w.alloc (.cells (X.set 13 (.int .i64 m2)).toArray 39)).alloc (.cells Y.toArray 39)).alloc (.cells Z24.toArray 39)).rangeAt (w.heap.size + 1) 14 V) := Lib.hid (hV ▸ blk_range (blkAt ((Blk.new (w.alloc (.cells (X.set 13 (.int .i64 m2)).toArray 39)) 39 Y.toArray).alloc (.cells Z24.toArray 39)) (g' := w.heap.size + 1) (by simp)) 14 6)
  have HT3 : Hid ((((w.alloc (.cells (X.set 13 (.int .i64 m2)).toArray 39)).alloc (.cells Y.toArray 39)).alloc (.cells Z24.toArray 39)).there w.heap.size 14 V.toArray.size) := Lib.hid (blk_there K1.out (by rw [List.size_toArray, List.length_set, hV2, hX]; omega))
  have KP2 : Hid (Blk ((((w.alloc (.cells (X.set 13 (.int .i64 m2)).toArray 39)).alloc (.cells Y.toArray 39)).alloc (.cells Z24.toArray 39)).setCells w.heap.size 14 V) w.heap.size 39 X'.toArray) := Lib.hid (hs ▸ blk_setCells V K1.out (by rw [List.length_set, hV2, hX]; omega))
  have KR2 : Hid (Blk ((((w.alloc (.cells (X.set 13 (.int .i64 m2)).toArray 39)).alloc (.cells Y.toArray 39)).alloc (.cells Z24.toArray 39)).setCells w.heap.size 14 V) (w.heap.size + 1 + 1) 39 Z24.toArray) := Lib.hid (blk_setFar V (blkAt (Blk.new ((w.alloc (.cells (X.set 13 (.int .i64 m2)).toArray 39)).alloc (.cells Y.toArray 39)) 39 Z24.toArray) (g' := w.heap.size + 1 + 1) (by simp)) (by omega))
  have HB2 : Hid (Below w.heap.size w ((((w.alloc (.cells (X.set 13 (.int .i64 m2)).toArray 39)).alloc (.cells Y.toArray 39)).alloc (.cells Z24.toArray 39)).setCells w.heap.size 14 V)) := Lib.hid (below_setCells V (balloc (balloc (alloc_below _ _) _) _) (Nat.le_refl _))
  clear ho hX hX'
  go_enter Try.func19, Try.ntmps19
  go_wp2_with (first | refine wpList_load_mid rfl 37 (.tmp 18) rfl (w.heap.size + 1) 14 rfl V _ HR3.out Try.underlying37 rfl HS2.out ?_ | refine wpList_store_mid rfl 37 (.tmp 20) (.tmp 19) rfl w.heap.size 14 V.toArray rfl rfl HT3.out HS3.out HO3.out ?_ | refine wpList_store_mid rfl 39 (.tmp 6) (.tmp 37) rfl (w.heap.size + 1 + 1) 0 X'.toArray rfl rfl (blk_there KR2.out HZ.out) HS'.out HO.out ?_ | refine wpList_load_mid rfl 39 (.tmp 3) rfl w.heap.size 0 rfl X' _ (blk_whole KP2.out) Try.underlying39 rfl HS.out ?_)
  have KW := Lib.hid (splice_all HZ3.out ▸ blk_setCells X' KR2.out HZ2.out)
  refine fin (fun W => Blk W (w.heap.size + 1 + 1) 39 X'.toArray ∧ Below w.heap.size w W) ⟨KW.out, below_setCells _ HB2.out (by omega)⟩ ?_
  rintro W ⟨kr, hb⟩
  have hl := run_loadVar_mid W (w.heap.size + 1 + 1) 0 39 X' _ (blk_whole kr) Try.underlying39 rfl HS.out
  simp only [Act.put, List.setIfInBounds_toArray, List.set_cons_zero, List.set_cons_succ]
  exact bodyPost_ret (v := .agg X'.toArray) (results_cell Try.results19 rfl hl) rfl ⟨rfl, hb⟩

set_option maxHeartbeats 1000000 in
theorem rlay_paint (X Y X' : List Value) (p2 a2 : Int) (c2 : Bool) (x20 x21 x22 : Value) (hx20 : X[20]? = some x20) (hx21 : X[21]? = some x21) (hx22 : X[22]? = some x22) (hy20 : Y[20]? = some (.int .i64 p2)) (hy21 : Y[21]? = some (.int .i64 a2)) (hy22 : Y[22]? = some (.bool c2)) (hs : ((X.set 20 (.int .i64 p2)).set 21 (.int .i64 a2)).set 22 (.bool c2) = X') (w : World) (hX' : X'.length = 24) (ho : X'.toArray.all (·.oneCell') = true) :
    Calls Try.prog 19 #[.agg X.toArray, .agg Y.toArray, .int .i64 2] w fun e w' => e = .returned (.agg X'.toArray) ∧ Below w.heap.size w w' := by
  have HO := Lib.hid ho
  have HS : Hid ((Try.prog.info? 39).map (·.size) = some X'.length) := Lib.hid (by rw [hX']; kernel_rfl)
  have HS' : Hid ((Try.prog.info? 39).map (·.size) = some X'.toArray.size) := Lib.hid (by rw [List.size_toArray, hX']; kernel_rfl)
  have HZ : Hid (0 + X'.toArray.size ≤ Z24.length) := Lib.hid (by rw [List.size_toArray, hX']; exact Nat.le_refl 24)
  have HZ2 : Hid (0 + X'.length ≤ Z24.length) := Lib.hid (by rw [hX']; exact Nat.le_refl 24)
  have HZ3 : Hid (X'.length = Z24.length) := Lib.hid (by rw [hX']; rfl)
  have K0 := Lib.hid (((Blk.new w 39 X.toArray).alloc (.cells Y.toArray 39)).alloc (.cells Z24.toArray 39))
  have KQ := Lib.hid (blkAt ((Blk.new (w.alloc (.cells X.toArray 39)) 39 Y.toArray).alloc (.cells Z24.toArray 39)) (g' := w.heap.size + 1) (by simp))
  have KR := Lib.hid (blkAt (Blk.new ((w.alloc (.cells X.toArray 39)).alloc (.cells Y.toArray 39)) 39 Z24.toArray) (g' := w.heap.size + 1 + 1) (by simp))
  have q20 : (((w.alloc (.cells X.toArray 39)).alloc (.cells Y.toArray 39)).alloc (.cells Z24.toArray 39)).cell? ⟨w.heap.size + 1, 20, none⟩ = some (.int .i64 p2) := by rw [KQ.out.cell 20]; simpa using hy20
  have p20 : (((w.alloc (.cells X.toArray 39)).alloc (.cells Y.toArray 39)).alloc (.cells Z24.toArray 39)).cell? ⟨w.heap.size, 20, none⟩ = some x20 := by rw [K0.out.cell 20]; simpa using hx20
  have f20 : (((w.alloc (.cells X.toArray 39)).alloc (.cells Y.toArray 39)).alloc (.cells Z24.toArray 39)).frozen? ⟨w.heap.size, 20, none⟩ = false := K0.out.frozen 20
  have q21 : (((w.alloc (.cells X.toArray 39)).alloc (.cells Y.toArray 39)).alloc (.cells Z24.toArray 39)).cell? ⟨w.heap.size + 1, 21, none⟩ = some (.int .i64 a2) := by rw [KQ.out.cell 21]; simpa using hy21
  have p21 : (((w.alloc (.cells X.toArray 39)).alloc (.cells Y.toArray 39)).alloc (.cells Z24.toArray 39)).cell? ⟨w.heap.size, 21, none⟩ = some x21 := by rw [K0.out.cell 21]; simpa using hx21
  have f21 : (((w.alloc (.cells X.toArray 39)).alloc (.cells Y.toArray 39)).alloc (.cells Z24.toArray 39)).frozen? ⟨w.heap.size, 21, none⟩ = false := K0.out.frozen 21
  have q22 : (((w.alloc (.cells X.toArray 39)).alloc (.cells Y.toArray 39)).alloc (.cells Z24.toArray 39)).cell? ⟨w.heap.size + 1, 22, none⟩ = some (.bool c2) := by rw [KQ.out.cell 22]; simpa using hy22
  have p22 : (((w.alloc (.cells X.toArray 39)).alloc (.cells Y.toArray 39)).alloc (.cells Z24.toArray 39)).cell? ⟨w.heap.size, 22, none⟩ = some x22 := by rw [K0.out.cell 22]; simpa using hx22
  have f22 : (((w.alloc (.cells X.toArray 39)).alloc (.cells Y.toArray 39)).alloc (.cells Z24.toArray 39)).frozen? ⟨w.heap.size, 22, none⟩ = false := K0.out.frozen 22
  have KP2 : Hid (Blk (((w.alloc (.cells X'.toArray 39)).alloc (.cells Y.toArray 39)).alloc (.cells Z24.toArray 39)) w.heap.size 39 X'.toArray) := Lib.hid (((Blk.new w 39 X'.toArray).alloc (.cells Y.toArray 39)).alloc (.cells Z24.toArray 39))
  have KR2 : Hid (Blk (((w.alloc (.cells X'.toArray 39)).alloc (.cells Y.toArray 39)).alloc (.cells Z24.toArray 39)) (w.heap.size + 1 + 1) 39 Z24.toArray) := Lib.hid (blkAt (Blk.new ((w.alloc (.cells X'.toArray 39)).alloc (.cells Y.toArray 39)) 39 Z24.toArray) (g' := w.heap.size + 1 + 1) (by simp))
  have HB2 : Hid (Below w.heap.size w (((w.alloc (.cells X'.toArray 39)).alloc (.cells Y.toArray 39)).alloc (.cells Z24.toArray 39))) := Lib.hid (balloc (balloc (alloc_below _ _) _) _)
  clear ho hX'
  go_enter Try.func19, Try.ntmps19
  go_wp2_with (first | refine wpList_store_mid rfl 39 (.tmp 6) (.tmp 37) rfl (w.heap.size + 1 + 1) 0 X'.toArray rfl rfl (blk_there KR2.out HZ.out) HS'.out HO.out ?_ | refine wpList_load_mid rfl 39 (.tmp 3) rfl w.heap.size 0 rfl X' _ (blk_whole KP2.out) Try.underlying39 rfl HS.out ?_)
  have KW := Lib.hid (splice_all HZ3.out ▸ blk_setCells X' KR2.out HZ2.out)
  refine fin (fun W => Blk W (w.heap.size + 1 + 1) 39 X'.toArray ∧ Below w.heap.size w W) ⟨KW.out, below_setCells _ HB2.out (by omega)⟩ ?_
  rintro W ⟨kr, hb⟩
  have hl := run_loadVar_mid W (w.heap.size + 1 + 1) 0 39 X' _ (blk_whole kr) Try.underlying39 rfl HS.out
  simp only [Act.put, List.setIfInBounds_toArray, List.set_cons_zero, List.set_cons_succ]
  exact bodyPost_ret (v := .agg X'.toArray) (results_cell Try.results19 rfl hl) rfl ⟨rfl, hb⟩

set_option maxHeartbeats 1000000 in
theorem rlay_layer (X Y X' : List Value) (l2 : Int) (x23 : Value) (hx23 : X[23]? = some x23) (hy23 : Y[23]? = some (.int .i64 l2)) (hs : X.set 23 (.int .i64 l2) = X') (w : World) (hX' : X'.length = 24) (ho : X'.toArray.all (·.oneCell') = true) :
    Calls Try.prog 19 #[.agg X.toArray, .agg Y.toArray, .int .i64 3] w fun e w' => e = .returned (.agg X'.toArray) ∧ Below w.heap.size w w' := by
  have HO := Lib.hid ho
  have HS : Hid ((Try.prog.info? 39).map (·.size) = some X'.length) := Lib.hid (by rw [hX']; kernel_rfl)
  have HS' : Hid ((Try.prog.info? 39).map (·.size) = some X'.toArray.size) := Lib.hid (by rw [List.size_toArray, hX']; kernel_rfl)
  have HZ : Hid (0 + X'.toArray.size ≤ Z24.length) := Lib.hid (by rw [List.size_toArray, hX']; exact Nat.le_refl 24)
  have HZ2 : Hid (0 + X'.length ≤ Z24.length) := Lib.hid (by rw [hX']; exact Nat.le_refl 24)
  have HZ3 : Hid (X'.length = Z24.length) := Lib.hid (by rw [hX']; rfl)
  have K0 := Lib.hid (((Blk.new w 39 X.toArray).alloc (.cells Y.toArray 39)).alloc (.cells Z24.toArray 39))
  have KQ := Lib.hid (blkAt ((Blk.new (w.alloc (.cells X.toArray 39)) 39 Y.toArray).alloc (.cells Z24.toArray 39)) (g' := w.heap.size + 1) (by simp))
  have KR := Lib.hid (blkAt (Blk.new ((w.alloc (.cells X.toArray 39)).alloc (.cells Y.toArray 39)) 39 Z24.toArray) (g' := w.heap.size + 1 + 1) (by simp))
  have q23 : (((w.alloc (.cells X.toArray 39)).alloc (.cells Y.toArray 39)).alloc (.cells Z24.toArray 39)).cell? ⟨w.heap.size + 1, 23, none⟩ = some (.int .i64 l2) := by rw [KQ.out.cell 23]; simpa using hy23
  have p23 : (((w.alloc (.cells X.toArray 39)).alloc (.cells Y.toArray 39)).alloc (.cells Z24.toArray 39)).cell? ⟨w.heap.size, 23, none⟩ = some x23 := by rw [K0.out.cell 23]; simpa using hx23
  have f23 : (((w.alloc (.cells X.toArray 39)).alloc (.cells Y.toArray 39)).alloc (.cells Z24.toArray 39)).frozen? ⟨w.heap.size, 23, none⟩ = false := K0.out.frozen 23
  have KP2 : Hid (Blk (((w.alloc (.cells X'.toArray 39)).alloc (.cells Y.toArray 39)).alloc (.cells Z24.toArray 39)) w.heap.size 39 X'.toArray) := Lib.hid (((Blk.new w 39 X'.toArray).alloc (.cells Y.toArray 39)).alloc (.cells Z24.toArray 39))
  have KR2 : Hid (Blk (((w.alloc (.cells X'.toArray 39)).alloc (.cells Y.toArray 39)).alloc (.cells Z24.toArray 39)) (w.heap.size + 1 + 1) 39 Z24.toArray) := Lib.hid (blkAt (Blk.new ((w.alloc (.cells X'.toArray 39)).alloc (.cells Y.toArray 39)) 39 Z24.toArray) (g' := w.heap.size + 1 + 1) (by simp))
  have HB2 : Hid (Below w.heap.size w (((w.alloc (.cells X'.toArray 39)).alloc (.cells Y.toArray 39)).alloc (.cells Z24.toArray 39))) := Lib.hid (balloc (balloc (alloc_below _ _) _) _)
  clear ho hX'
  go_enter Try.func19, Try.ntmps19
  go_wp2_with (first | refine wpList_store_mid rfl 39 (.tmp 6) (.tmp 37) rfl (w.heap.size + 1 + 1) 0 X'.toArray rfl rfl (blk_there KR2.out HZ.out) HS'.out HO.out ?_ | refine wpList_load_mid rfl 39 (.tmp 3) rfl w.heap.size 0 rfl X' _ (blk_whole KP2.out) Try.underlying39 rfl HS.out ?_)
  have KW := Lib.hid (splice_all HZ3.out ▸ blk_setCells X' KR2.out HZ2.out)
  refine fin (fun W => Blk W (w.heap.size + 1 + 1) 39 X'.toArray ∧ Below w.heap.size w W) ⟨KW.out, below_setCells _ HB2.out (by omega)⟩ ?_
  rintro W ⟨kr, hb⟩
  have hl := run_loadVar_mid W (w.heap.size + 1 + 1) 0 39 X' _ (blk_whole kr) Try.underlying39 rfl HS.out
  simp only [Act.put, List.setIfInBounds_toArray, List.set_cons_zero, List.set_cons_succ]
  exact bodyPost_ret (v := .agg X'.toArray) (results_cell Try.results19 rfl hl) rfl ⟨rfl, hb⟩

/-- parts with a kind's values from others -/
def layP (k : Int) (X Y : List Value) : List Value :=
  if k = 0 then splice X 1 ((Y.drop 1).take 12) else if k = 1 then X.take 13 ++ (Y.drop 13).take 7 ++ X.drop 20 else if k = 2 then X.take 20 ++ (Y.drop 20).take 3 ++ X.drop 23 else if k = 3 then X.take 23 ++ Y.drop 23 else X
theorem rlay_any (k : Int) (h : Int) (M : Nat → Int) (m : Int) (B : Nat → Int) (p a : Int) (c : Bool) (l : Int) (h2 : Int) (N : Nat → Int) (m2 : Int) (B2 : Nat → Int) (p2 a2 : Int) (c2 : Bool) (l2 : Int) (w : World) :
    Calls Try.prog 19 #[.agg (PL h M m B p a c l).toArray, .agg (PL h2 N m2 B2 p2 a2 c2 l2).toArray, .int .i64 k] w fun e w' => e = .returned (.agg (layP k (PL h M m B p a c l) (PL h2 N m2 B2 p2 a2 c2 l2)).toArray) ∧ Below w.heap.size w w' := by
  rcases kind_cases k with hk | hk | rfl | rfl | rfl | rfl | rfl
  · rw [show layP k (PL h M m B p a c l) (PL h2 N m2 B2 p2 a2 c2 l2) = PL h M m B p a c l by unfold layP; rw [if_neg (by omega), if_neg (by omega), if_neg (by omega), if_neg (by omega)]]
    exact rlay_hide h M m B p a c l _ k w (.inl hk)
  · rw [show layP k (PL h M m B p a c l) (PL h2 N m2 B2 p2 a2 c2 l2) = PL h M m B p a c l by unfold layP; rw [if_neg (by omega), if_neg (by omega), if_neg (by omega), if_neg (by omega)]]
    exact rlay_hide h M m B p a c l _ k w (.inr (by omega))
  · exact rlay_place _ _ (PL h N m B p a c l) _ rfl rfl (all_oneCell_toArray (fun v hv => by
      have e : ((PL h2 N m2 B2 p2 a2 c2 l2).drop 1).take 12 = [.int .i64 (N 0), .int .i64 (N 1), .int .i64 (N 2), .int .i64 (N 3), .int .i64 (N 4), .int .i64 (N 5), .int .i64 (N 6), .int .i64 (N 7), .int .i64 (N 8), .int .i64 (N 9), .int .i64 (N 10), .int .i64 (N 11)] := rfl
      rw [e] at hv
      simp only [List.mem_cons, List.not_mem_nil, or_false] at hv
      rcases hv with rfl | rfl | rfl | rfl | rfl | rfl | rfl | rfl | rfl | rfl | rfl | rfl <;> rfl)) rfl w rfl rfl (PL_one _ _ _ _ _ _ _ _)
  · exact rlay_shape _ _ (PL h M m2 B2 p a c l) _ m2 (.int .i64 m) rfl rfl rfl rfl (all_oneCell_toArray (fun v hv => by
      have e : ((PL h2 N m2 B2 p2 a2 c2 l2).drop 14).take 6 = [.int .i64 (B2 0), .int .i64 (B2 1), .int .i64 (B2 2), .int .i64 (B2 3), .int .i64 (B2 4), .int .i64 (B2 5)] := rfl
      rw [e] at hv
      simp only [List.mem_cons, List.not_mem_nil, or_false] at hv
      rcases hv with rfl | rfl | rfl | rfl | rfl | rfl <;> rfl)) rfl w rfl rfl (PL_one _ _ _ _ _ _ _ _)
  · exact rlay_paint _ _ (PL h M m B p2 a2 c2 l) p2 a2 c2 (.int .i64 p) (.int .i64 a) (.bool c) rfl rfl rfl rfl rfl rfl rfl w rfl (PL_one _ _ _ _ _ _ _ _)
  · exact rlay_layer _ _ (PL h M m B p a c l2) l2 (.int .i64 l) rfl rfl rfl w rfl (PL_one _ _ _ _ _ _ _ _)
  · exact rlay_hide h M m B p a c l _ 4 w (.inr (by omega))

end Go.Proofs.Ytpobnmcjmclgbaa
