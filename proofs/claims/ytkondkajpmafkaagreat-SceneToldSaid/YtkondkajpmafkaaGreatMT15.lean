/-
  What the landed table's at, put and cut answer, for matrices and boxes.
-/
import Derived.Test.YtkondkajpmafkaaGreatMT14
namespace Go.Proofs.YtkondkajpmafkaaGreat
open Go.RowKit

theorem one_mat (M : Nat → Int) : (([.int .i64 (M 0), .int .i64 (M 1), .int .i64 (M 2), .int .i64 (M 3), .int .i64 (M 4), .int .i64 (M 5), .int .i64 (M 6), .int .i64 (M 7), .int .i64 (M 8), .int .i64 (M 9), .int .i64 (M 10), .int .i64 (M 11)] : List Value).toArray.all (·.oneCell') = true) := all_oneCell_toArray (fun v hv => by
  simp only [List.mem_cons, List.not_mem_nil, or_false] at hv
  rcases hv with rfl | rfl | rfl | rfl | rfl | rfl | rfl | rfl | rfl | rfl | rfl | rfl <;> rfl)
theorem info_mat : (Tryz.prog.info? 37).map (·.size) = some 12 := by kernel_rfl
set_option maxHeartbeats 1000000 in
set_option maxRecDepth 100000 in
theorem at_mat (f : Int × PT → Nat → Int) (v : Value) (X : TR) (row : Nat) (w : World) (h : ColX w 37 12 (fun x => [.int .i64 (f x 0), .int .i64 (f x 1), .int .i64 (f x 2), .int .i64 (f x 3), .int .i64 (f x 4), .int .i64 (f x 5), .int .i64 (f x 6), .int .i64 (f x 7), .int .i64 (f x 8), .int .i64 (f x 9), .int .i64 (f x 10), .int .i64 (f x 11)]) v X) (hX : X.length ≤ 1000) (hz : ∀ j, f d0 j = 0) :
    Calls Tryz.prog 143 #[v, .int .i64 row] w fun e w' => e = .returned (.agg #[.int .i64 (f (X.getD row d0) 0), .int .i64 (f (X.getD row d0) 1), .int .i64 (f (X.getD row d0) 2), .int .i64 (f (X.getD row d0) 3), .int .i64 (f (X.getD row d0) 4), .int .i64 (f (X.getD row d0) 5), .int .i64 (f (X.getD row d0) 6), .int .i64 (f (X.getD row d0) 7), .int .i64 (f (X.getD row d0) 8), .int .i64 (f (X.getD row d0) 9), .int .i64 (f (X.getD row d0) 10), .int .i64 (f (X.getD row d0) 11)]) ∧ Below w.heap.size w w' := by
  have hc : ∀ x, ((fun x => [.int .i64 (f x 0), .int .i64 (f x 1), .int .i64 (f x 2), .int .i64 (f x 3), .int .i64 (f x 4), .int .i64 (f x 5), .int .i64 (f x 6), .int .i64 (f x 7), .int .i64 (f x 8), .int .i64 (f x 9), .int .i64 (f x 10), .int .i64 (f x 11)]) x : List Value).length = 12 := fun _ => rfl
  obtain ⟨n, hn⟩ : ∃ n, n = X.length := ⟨_, rfl⟩
  by_cases hlt : row < X.length
  · obtain ⟨g, cap, cur, rfl, hbk, hcap, hmax, _, _⟩ := h.open_ (by omega)
    have hr := h.range hc (getD_at hlt)
    have hg := hbk.lt
    have r0 : (0 : Int) ≤ (row : Int) := by omega
    obtain ⟨Y, hY⟩ : ∃ Y : List Value, Y = [.int .i64 (f (X.getD row d0) 0), .int .i64 (f (X.getD row d0) 1), .int .i64 (f (X.getD row d0) 2), .int .i64 (f (X.getD row d0) 3), .int .i64 (f (X.getD row d0) 4), .int .i64 (f (X.getD row d0) 5), .int .i64 (f (X.getD row d0) 6), .int .i64 (f (X.getD row d0) 7), .int .i64 (f (X.getD row d0) 8), .int .i64 (f (X.getD row d0) 9), .int .i64 (f (X.getD row d0) 10), .int .i64 (f (X.getD row d0) 11)] := ⟨_, rfl⟩
    have hY1 : Y.length = 12 := by rw [hY]; rfl
    have hY2 : Y.toArray.all (·.oneCell') = true := by rw [hY]; exact one_mat _
    rw [show (#[.int .i64 (f (X.getD row d0) 0), .int .i64 (f (X.getD row d0) 1), .int .i64 (f (X.getD row d0) 2), .int .i64 (f (X.getD row d0) 3), .int .i64 (f (X.getD row d0) 4), .int .i64 (f (X.getD row d0) 5), .int .i64 (f (X.getD row d0) 6), .int .i64 (f (X.getD row d0) 7), .int .i64 (f (X.getD row d0) 8), .int .i64 (f (X.getD row d0) 9), .int .i64 (f (X.getD row d0) 10), .int .i64 (f (X.getD row d0) 11)] : Array Value) = Y.toArray by rw [hY]]
    simp only [← hY] at hr
    have HSz : Hid ((Tryz.prog.info? 37).map (·.size) = some Y.length) := Lib.hid (by rw [hY1]; exact info_mat)
    have HSz' : Hid ((Tryz.prog.info? 37).map (·.size) = some Y.toArray.size) := Lib.hid (by rw [List.size_toArray, hY1]; exact info_mat)
    have HO := Lib.hid hY2
    have HL := Lib.hid hY1
    have HR : Hid (((w.alloc (.cells #[.int .i64 0, .int .i64 0, .int .i64 0, .int .i64 0, .int .i64 0, .int .i64 0, .int .i64 0, .int .i64 0, .int .i64 0, .int .i64 0, .int .i64 0, .int .i64 0] 37)).alloc (.cells #[.int .i64 0, .int .i64 0, .int .i64 0, .int .i64 0, .int .i64 0, .int .i64 0, .int .i64 0, .int .i64 0, .int .i64 0, .int .i64 0, .int .i64 0, .int .i64 0] 37)).rangeAt g (row * 12) Y) := Lib.hid (range_same hr ((balloc (alloc_below _ _) _).block g hg))
    have K5 : Hid (Blk ((w.alloc (.cells #[.int .i64 0, .int .i64 0, .int .i64 0, .int .i64 0, .int .i64 0, .int .i64 0, .int .i64 0, .int .i64 0, .int .i64 0, .int .i64 0, .int .i64 0, .int .i64 0] 37)).alloc (.cells #[.int .i64 0, .int .i64 0, .int .i64 0, .int .i64 0, .int .i64 0, .int .i64 0, .int .i64 0, .int .i64 0, .int .i64 0, .int .i64 0, .int .i64 0, .int .i64 0] 37)) (w.heap.size + 1) 37 ([.int .i64 0, .int .i64 0, .int .i64 0, .int .i64 0, .int .i64 0, .int .i64 0, .int .i64 0, .int .i64 0, .int .i64 0, .int .i64 0, .int .i64 0, .int .i64 0] : List Value).toArray) := Lib.hid (blkAt (Blk.new (w.alloc (.cells #[.int .i64 0, .int .i64 0, .int .i64 0, .int .i64 0, .int .i64 0, .int .i64 0, .int .i64 0, .int .i64 0, .int .i64 0, .int .i64 0, .int .i64 0, .int .i64 0] 37)) 37 #[.int .i64 0, .int .i64 0, .int .i64 0, .int .i64 0, .int .i64 0, .int .i64 0, .int .i64 0, .int .i64 0, .int .i64 0, .int .i64 0, .int .i64 0, .int .i64 0]) (by simp))
    have K4 : Hid (Blk ((w.alloc (.cells #[.int .i64 0, .int .i64 0, .int .i64 0, .int .i64 0, .int .i64 0, .int .i64 0, .int .i64 0, .int .i64 0, .int .i64 0, .int .i64 0, .int .i64 0, .int .i64 0] 37)).alloc (.cells #[.int .i64 0, .int .i64 0, .int .i64 0, .int .i64 0, .int .i64 0, .int .i64 0, .int .i64 0, .int .i64 0, .int .i64 0, .int .i64 0, .int .i64 0, .int .i64 0] 37)) w.heap.size 37 ([.int .i64 0, .int .i64 0, .int .i64 0, .int .i64 0, .int .i64 0, .int .i64 0, .int .i64 0, .int .i64 0, .int .i64 0, .int .i64 0, .int .i64 0, .int .i64 0] : List Value).toArray) := Lib.hid ((Blk.new w 37 #[.int .i64 0, .int .i64 0, .int .i64 0, .int .i64 0, .int .i64 0, .int .i64 0, .int .i64 0, .int .i64 0, .int .i64 0, .int .i64 0, .int .i64 0, .int .i64 0]).alloc (.cells #[.int .i64 0, .int .i64 0, .int .i64 0, .int .i64 0, .int .i64 0, .int .i64 0, .int .i64 0, .int .i64 0, .int .i64 0, .int .i64 0, .int .i64 0, .int .i64 0] 37))
    have HT5 : Hid (((w.alloc (.cells #[.int .i64 0, .int .i64 0, .int .i64 0, .int .i64 0, .int .i64 0, .int .i64 0, .int .i64 0, .int .i64 0, .int .i64 0, .int .i64 0, .int .i64 0, .int .i64 0] 37)).alloc (.cells #[.int .i64 0, .int .i64 0, .int .i64 0, .int .i64 0, .int .i64 0, .int .i64 0, .int .i64 0, .int .i64 0, .int .i64 0, .int .i64 0, .int .i64 0, .int .i64 0] 37)).there (w.heap.size + 1) 0 Y.toArray.size) := Lib.hid (blk_there K5.out (by rw [List.size_toArray, hY1]; exact Nat.le_refl 12))
    have L5 : Hid (Blk (((w.alloc (.cells #[.int .i64 0, .int .i64 0, .int .i64 0, .int .i64 0, .int .i64 0, .int .i64 0, .int .i64 0, .int .i64 0, .int .i64 0, .int .i64 0, .int .i64 0, .int .i64 0] 37)).alloc (.cells #[.int .i64 0, .int .i64 0, .int .i64 0, .int .i64 0, .int .i64 0, .int .i64 0, .int .i64 0, .int .i64 0, .int .i64 0, .int .i64 0, .int .i64 0, .int .i64 0] 37)).setCells (w.heap.size + 1) 0 Y) (w.heap.size + 1) 37 Y.toArray) := Lib.hid (blk_over K5.out hY1)
    have L4 : Hid (Blk (((w.alloc (.cells #[.int .i64 0, .int .i64 0, .int .i64 0, .int .i64 0, .int .i64 0, .int .i64 0, .int .i64 0, .int .i64 0, .int .i64 0, .int .i64 0, .int .i64 0, .int .i64 0] 37)).alloc (.cells #[.int .i64 0, .int .i64 0, .int .i64 0, .int .i64 0, .int .i64 0, .int .i64 0, .int .i64 0, .int .i64 0, .int .i64 0, .int .i64 0, .int .i64 0, .int .i64 0] 37)).setCells (w.heap.size + 1) 0 Y) w.heap.size 37 ([.int .i64 0, .int .i64 0, .int .i64 0, .int .i64 0, .int .i64 0, .int .i64 0, .int .i64 0, .int .i64 0, .int .i64 0, .int .i64 0, .int .i64 0, .int .i64 0] : List Value).toArray) := Lib.hid (blk_setFar Y K4.out (by omega))
    have HR5 : Hid ((((w.alloc (.cells #[.int .i64 0, .int .i64 0, .int .i64 0, .int .i64 0, .int .i64 0, .int .i64 0, .int .i64 0, .int .i64 0, .int .i64 0, .int .i64 0, .int .i64 0, .int .i64 0] 37)).alloc (.cells #[.int .i64 0, .int .i64 0, .int .i64 0, .int .i64 0, .int .i64 0, .int .i64 0, .int .i64 0, .int .i64 0, .int .i64 0, .int .i64 0, .int .i64 0, .int .i64 0] 37)).setCells (w.heap.size + 1) 0 Y).rangeAt (w.heap.size + 1) 0 Y) := Lib.hid (blk_whole L5.out)
    have HT4 : Hid ((((w.alloc (.cells #[.int .i64 0, .int .i64 0, .int .i64 0, .int .i64 0, .int .i64 0, .int .i64 0, .int .i64 0, .int .i64 0, .int .i64 0, .int .i64 0, .int .i64 0, .int .i64 0] 37)).alloc (.cells #[.int .i64 0, .int .i64 0, .int .i64 0, .int .i64 0, .int .i64 0, .int .i64 0, .int .i64 0, .int .i64 0, .int .i64 0, .int .i64 0, .int .i64 0, .int .i64 0] 37)).setCells (w.heap.size + 1) 0 Y).there w.heap.size 0 Y.toArray.size) := Lib.hid (blk_there L4.out (by rw [List.size_toArray, hY1]; exact Nat.le_refl 12))
    have M4 : Hid (Blk ((((w.alloc (.cells #[.int .i64 0, .int .i64 0, .int .i64 0, .int .i64 0, .int .i64 0, .int .i64 0, .int .i64 0, .int .i64 0, .int .i64 0, .int .i64 0, .int .i64 0, .int .i64 0] 37)).alloc (.cells #[.int .i64 0, .int .i64 0, .int .i64 0, .int .i64 0, .int .i64 0, .int .i64 0, .int .i64 0, .int .i64 0, .int .i64 0, .int .i64 0, .int .i64 0, .int .i64 0] 37)).setCells (w.heap.size + 1) 0 Y).setCells w.heap.size 0 Y) w.heap.size 37 Y.toArray) := Lib.hid (blk_over L4.out hY1)
    have HB : Hid (Below w.heap.size w ((((w.alloc (.cells #[.int .i64 0, .int .i64 0, .int .i64 0, .int .i64 0, .int .i64 0, .int .i64 0, .int .i64 0, .int .i64 0, .int .i64 0, .int .i64 0, .int .i64 0, .int .i64 0] 37)).alloc (.cells #[.int .i64 0, .int .i64 0, .int .i64 0, .int .i64 0, .int .i64 0, .int .i64 0, .int .i64 0, .int .i64 0, .int .i64 0, .int .i64 0, .int .i64 0, .int .i64 0] 37)).setCells (w.heap.size + 1) 0 Y).setCells w.heap.size 0 Y)) := Lib.hid (below_setCells _ (below_setCells _ (balloc (alloc_below _ _) _) (by omega)) (Nat.le_refl _))
    rw [← hn] at hlt hX hcap ⊢
    have r1 : (row : Int) < (n : Int) := by omega
    clear h hc hn hz hr hY hbk hY1 hY2
    go_enter Tryz.func143, Tryz.ntmps143
    go_wp2_with (first | refine wpList_load_mid rfl 37 (.tmp 12) rfl g (row * 12) rfl Y _ HR.out Tryz.underlying37 rfl HSz.out ?_ | refine wpList_store_mid rfl 37 (.tmp 5) (.tmp 13) rfl (w.heap.size + 1) 0 Y.toArray rfl rfl HT5.out HSz'.out HO.out ?_ | refine wpList_load_mid rfl 37 (.tmp 5) rfl (w.heap.size + 1) 0 rfl Y _ HR5.out Tryz.underlying37 rfl HSz.out ?_ | refine wpList_store_mid rfl 37 (.tmp 4) (.tmp 14) rfl w.heap.size 0 Y.toArray rfl rfl HT4.out HSz'.out HO.out ?_)
    refine fin (fun W => Blk W w.heap.size 37 Y.toArray ∧ Below w.heap.size w W) ⟨M4.out, HB.out⟩ ?_
    rintro W ⟨kr, hb⟩
    have hl := run_loadVar_mid W w.heap.size 0 37 Y _ (blk_whole kr) Tryz.underlying37 rfl HSz.out
    try simp only [Act.put, List.setIfInBounds_toArray, List.set_cons_zero, List.set_cons_succ]
    exact bodyPost_ret (v := .agg Y.toArray) (results_cell Tryz.results143 rfl hl) rfl ⟨rfl, hb⟩
  · obtain ⟨a, cap, rfl, hcap, hmax⟩ := h.form
    rw [getD_no hlt]
    simp only [hz]
    obtain ⟨Y, hY⟩ : ∃ Y : List Value, Y = [.int .i64 0, .int .i64 0, .int .i64 0, .int .i64 0, .int .i64 0, .int .i64 0, .int .i64 0, .int .i64 0, .int .i64 0, .int .i64 0, .int .i64 0, .int .i64 0] := ⟨_, rfl⟩
    have hY1 : Y.length = 12 := by rw [hY]; rfl
    have hY2 : Y.toArray.all (·.oneCell') = true := by rw [hY]; exact one_mat (fun _ => 0)
    rw [show (#[.int .i64 0, .int .i64 0, .int .i64 0, .int .i64 0, .int .i64 0, .int .i64 0, .int .i64 0, .int .i64 0, .int .i64 0, .int .i64 0, .int .i64 0, .int .i64 0] : Array Value) = Y.toArray by rw [hY]]
    have HSz : Hid ((Tryz.prog.info? 37).map (·.size) = some Y.length) := Lib.hid (by rw [hY1]; exact info_mat)
    have HSz' : Hid ((Tryz.prog.info? 37).map (·.size) = some Y.toArray.size) := Lib.hid (by rw [List.size_toArray, hY1]; exact info_mat)
    have HO := Lib.hid hY2
    have HL := Lib.hid hY1
    have K5 : Hid (Blk ((w.alloc (.cells #[.int .i64 0, .int .i64 0, .int .i64 0, .int .i64 0, .int .i64 0, .int .i64 0, .int .i64 0, .int .i64 0, .int .i64 0, .int .i64 0, .int .i64 0, .int .i64 0] 37)).alloc (.cells #[.int .i64 0, .int .i64 0, .int .i64 0, .int .i64 0, .int .i64 0, .int .i64 0, .int .i64 0, .int .i64 0, .int .i64 0, .int .i64 0, .int .i64 0, .int .i64 0] 37)) (w.heap.size + 1) 37 Y.toArray) := Lib.hid (by rw [hY]; exact blkAt (Blk.new (w.alloc (.cells #[.int .i64 0, .int .i64 0, .int .i64 0, .int .i64 0, .int .i64 0, .int .i64 0, .int .i64 0, .int .i64 0, .int .i64 0, .int .i64 0, .int .i64 0, .int .i64 0] 37)) 37 #[.int .i64 0, .int .i64 0, .int .i64 0, .int .i64 0, .int .i64 0, .int .i64 0, .int .i64 0, .int .i64 0, .int .i64 0, .int .i64 0, .int .i64 0, .int .i64 0]) (by simp))
    have K4 : Hid (Blk ((w.alloc (.cells #[.int .i64 0, .int .i64 0, .int .i64 0, .int .i64 0, .int .i64 0, .int .i64 0, .int .i64 0, .int .i64 0, .int .i64 0, .int .i64 0, .int .i64 0, .int .i64 0] 37)).alloc (.cells #[.int .i64 0, .int .i64 0, .int .i64 0, .int .i64 0, .int .i64 0, .int .i64 0, .int .i64 0, .int .i64 0, .int .i64 0, .int .i64 0, .int .i64 0, .int .i64 0] 37)) w.heap.size 37 Y.toArray) := Lib.hid (by rw [hY]; exact (Blk.new w 37 #[.int .i64 0, .int .i64 0, .int .i64 0, .int .i64 0, .int .i64 0, .int .i64 0, .int .i64 0, .int .i64 0, .int .i64 0, .int .i64 0, .int .i64 0, .int .i64 0]).alloc (.cells #[.int .i64 0, .int .i64 0, .int .i64 0, .int .i64 0, .int .i64 0, .int .i64 0, .int .i64 0, .int .i64 0, .int .i64 0, .int .i64 0, .int .i64 0, .int .i64 0] 37))
    have HR5 : Hid (((w.alloc (.cells #[.int .i64 0, .int .i64 0, .int .i64 0, .int .i64 0, .int .i64 0, .int .i64 0, .int .i64 0, .int .i64 0, .int .i64 0, .int .i64 0, .int .i64 0, .int .i64 0] 37)).alloc (.cells #[.int .i64 0, .int .i64 0, .int .i64 0, .int .i64 0, .int .i64 0, .int .i64 0, .int .i64 0, .int .i64 0, .int .i64 0, .int .i64 0, .int .i64 0, .int .i64 0] 37)).rangeAt (w.heap.size + 1) 0 Y) := Lib.hid (blk_whole K5.out)
    have HT4 : Hid (((w.alloc (.cells #[.int .i64 0, .int .i64 0, .int .i64 0, .int .i64 0, .int .i64 0, .int .i64 0, .int .i64 0, .int .i64 0, .int .i64 0, .int .i64 0, .int .i64 0, .int .i64 0] 37)).alloc (.cells #[.int .i64 0, .int .i64 0, .int .i64 0, .int .i64 0, .int .i64 0, .int .i64 0, .int .i64 0, .int .i64 0, .int .i64 0, .int .i64 0, .int .i64 0, .int .i64 0] 37)).there w.heap.size 0 Y.toArray.size) := Lib.hid (blk_there K4.out (by rw [List.size_toArray]; omega))
    have M4 : Hid (Blk (((w.alloc (.cells #[.int .i64 0, .int .i64 0, .int .i64 0, .int .i64 0, .int .i64 0, .int .i64 0, .int .i64 0, .int .i64 0, .int .i64 0, .int .i64 0, .int .i64 0, .int .i64 0] 37)).alloc (.cells #[.int .i64 0, .int .i64 0, .int .i64 0, .int .i64 0, .int .i64 0, .int .i64 0, .int .i64 0, .int .i64 0, .int .i64 0, .int .i64 0, .int .i64 0, .int .i64 0] 37)).setCells w.heap.size 0 Y) w.heap.size 37 Y.toArray) := Lib.hid (blk_over K4.out rfl)
    have HB : Hid (Below w.heap.size w (((w.alloc (.cells #[.int .i64 0, .int .i64 0, .int .i64 0, .int .i64 0, .int .i64 0, .int .i64 0, .int .i64 0, .int .i64 0, .int .i64 0, .int .i64 0, .int .i64 0, .int .i64 0] 37)).alloc (.cells #[.int .i64 0, .int .i64 0, .int .i64 0, .int .i64 0, .int .i64 0, .int .i64 0, .int .i64 0, .int .i64 0, .int .i64 0, .int .i64 0, .int .i64 0, .int .i64 0] 37)).setCells w.heap.size 0 Y)) := Lib.hid (below_setCells _ (balloc (alloc_below _ _) _) (Nat.le_refl _))
    rw [← hn] at hlt hX hcap ⊢
    have r1 : ¬ (row : Int) < (n : Int) := by omega
    clear h hc hn hz hY hY1 hY2
    go_enter Tryz.func143, Tryz.ntmps143
    go_wp2_with (first | refine wpList_load_mid rfl 37 (.tmp 5) rfl (w.heap.size + 1) 0 rfl Y _ HR5.out Tryz.underlying37 rfl HSz.out ?_ | refine wpList_store_mid rfl 37 (.tmp 4) (.tmp 14) rfl w.heap.size 0 Y.toArray rfl rfl HT4.out HSz'.out HO.out ?_)
    refine fin (fun W => Blk W w.heap.size 37 Y.toArray ∧ Below w.heap.size w W) ⟨M4.out, HB.out⟩ ?_
    rintro W ⟨kr, hb⟩
    have hl := run_loadVar_mid W w.heap.size 0 37 Y _ (blk_whole kr) Tryz.underlying37 rfl HSz.out
    try simp only [Act.put, List.setIfInBounds_toArray, List.set_cons_zero, List.set_cons_succ]
    exact bodyPost_ret (v := .agg Y.toArray) (results_cell Tryz.results143 rfl hl) rfl ⟨rfl, hb⟩
set_option maxHeartbeats 1000000 in
set_option maxRecDepth 100000 in
theorem put_mat (f : Int × PT → Nat → Int) (v : Value) (X : TR) (row : Nat) (w : World) (h : ColX w 37 12 (fun x => [.int .i64 (f x 0), .int .i64 (f x 1), .int .i64 (f x 2), .int .i64 (f x 3), .int .i64 (f x 4), .int .i64 (f x 5), .int .i64 (f x 6), .int .i64 (f x 7), .int .i64 (f x 8), .int .i64 (f x 9), .int .i64 (f x 10), .int .i64 (f x 11)]) v X) (hX : X.length ≤ 1000) (y : Int × PT) :
    Calls Tryz.prog 201 #[v, .int .i64 row, .agg #[.int .i64 (f y 0), .int .i64 (f y 1), .int .i64 (f y 2), .int .i64 (f y 3), .int .i64 (f y 4), .int .i64 (f y 5), .int .i64 (f y 6), .int .i64 (f y 7), .int .i64 (f y 8), .int .i64 (f y 9), .int .i64 (f y 10), .int .i64 (f y 11)]] w fun e w' => e = .returned (.tuple #[]) ∧ ColX w' 37 12 (fun x => [.int .i64 (f x 0), .int .i64 (f x 1), .int .i64 (f x 2), .int .i64 (f x 3), .int .i64 (f x 4), .int .i64 (f x 5), .int .i64 (f x 6), .int .i64 (f x 7), .int .i64 (f x 8), .int .i64 (f x 9), .int .i64 (f x 10), .int .i64 (f x 11)]) v (X.set row y) ∧ w.grownBy w' v.ownBlock := by
  have hc : ∀ x, ((fun x => [.int .i64 (f x 0), .int .i64 (f x 1), .int .i64 (f x 2), .int .i64 (f x 3), .int .i64 (f x 4), .int .i64 (f x 5), .int .i64 (f x 6), .int .i64 (f x 7), .int .i64 (f x 8), .int .i64 (f x 9), .int .i64 (f x 10), .int .i64 (f x 11)]) x : List Value).length = 12 := fun _ => rfl
  obtain ⟨n, hn⟩ : ∃ n, n = X.length := ⟨_, rfl⟩
  obtain ⟨Y, hY⟩ : ∃ Y : List Value, Y = [.int .i64 (f y 0), .int .i64 (f y 1), .int .i64 (f y 2), .int .i64 (f y 3), .int .i64 (f y 4), .int .i64 (f y 5), .int .i64 (f y 6), .int .i64 (f y 7), .int .i64 (f y 8), .int .i64 (f y 9), .int .i64 (f y 10), .int .i64 (f y 11)] := ⟨_, rfl⟩
  have hY1 : Y.length = 12 := by rw [hY]; rfl
  have hY2 : Y.toArray.all (·.oneCell') = true := by rw [hY]; exact one_mat _
  rw [show (#[.int .i64 (f y 0), .int .i64 (f y 1), .int .i64 (f y 2), .int .i64 (f y 3), .int .i64 (f y 4), .int .i64 (f y 5), .int .i64 (f y 6), .int .i64 (f y 7), .int .i64 (f y 8), .int .i64 (f y 9), .int .i64 (f y 10), .int .i64 (f y 11)] : Array Value) = Y.toArray by rw [hY]]
  by_cases hlt : row < X.length
  · obtain ⟨g, cap, cur, rfl, hbk, hcap, hmax, _, _⟩ := h.open_ (by omega)
    have hg := hbk.lt
    have r0 : (0 : Int) ≤ (row : Int) := by omega
    have HSz : Hid ((Tryz.prog.info? 37).map (·.size) = some Y.length) := Lib.hid (by rw [hY1]; exact info_mat)
    have HSz' : Hid ((Tryz.prog.info? 37).map (·.size) = some Y.toArray.size) := Lib.hid (by rw [List.size_toArray, hY1]; exact info_mat)
    have HO := Lib.hid hY2
    have HL := Lib.hid hY1
    have h1 : ColX (w.alloc (.cells Y.toArray 37)) 37 12 (fun x => [.int .i64 (f x 0), .int .i64 (f x 1), .int .i64 (f x 2), .int .i64 (f x 3), .int .i64 (f x 4), .int .i64 (f x 5), .int .i64 (f x 6), .int .i64 (f x 7), .int .i64 (f x 8), .int .i64 (f x 9), .int .i64 (f x 10), .int .i64 (f x 11)]) (.slice (some ⟨g, 0, none⟩) X.length cap) X := h.kept (World.grownBy_alloc w _ none) (by simp [Value.ownBlock])
    have KB := Lib.hid (Blk.new w 37 Y.toArray)
    have HR : Hid ((w.alloc (.cells Y.toArray 37)).rangeAt w.heap.size 0 Y) := Lib.hid (blk_whole KB.out)
    have HT : Hid ((w.alloc (.cells Y.toArray 37)).there g (row * 12) Y.toArray.size) := Lib.hid (by rw [List.size_toArray, hY1]; exact h1.there hlt)
    have HS := h1.set_ hc hlt y
    simp only [← hY] at HS
    replace HS := Lib.hid HS
    have HG : Hid (w.grownBy ((w.alloc (.cells Y.toArray 37)).setCells g (row * 12) Y) (some g)) := Lib.hid ((World.grownBy_alloc w _ _).trans (grown_sets Y _ g (row * 12)))
    rw [← hn] at hlt hX hcap HS ⊢
    have r1 : (row : Int) < (n : Int) := by omega
    clear h hc hn hY hbk hY1 hY2 h1
    go_enter Tryz.func201, Tryz.ntmps201
    go_wp2_with (first | refine wpList_load_mid rfl 37 (.tmp 5) rfl w.heap.size 0 rfl Y _ HR.out Tryz.underlying37 rfl HSz.out ?_ | refine wpList_store_mid rfl 37 (.tmp 13) (.tmp 12) rfl g (row * 12) Y.toArray rfl rfl HT.out HSz'.out HO.out ?_)
    go_end0
    exact ⟨rfl, HS.out, HG.out⟩
  · obtain ⟨a, cap, rfl, hcap, hmax⟩ := h.form
    have HX : Hid (ColX (w.alloc (.cells Y.toArray 37)) 37 12 (fun x => [.int .i64 (f x 0), .int .i64 (f x 1), .int .i64 (f x 2), .int .i64 (f x 3), .int .i64 (f x 4), .int .i64 (f x 5), .int .i64 (f x 6), .int .i64 (f x 7), .int .i64 (f x 8), .int .i64 (f x 9), .int .i64 (f x 10), .int .i64 (f x 11)]) (.slice a X.length cap) X) := Lib.hid (h.kept (World.grownBy_alloc w _ none) (by cases hv : (Value.slice a X.length cap).ownBlock <;> simp))
    rw [List.set_eq_of_length_le (Nat.le_of_not_lt hlt)]
    rw [← hn] at hlt hX hcap HX ⊢
    have r1 : ¬ (row : Int) < (n : Int) := by omega
    clear h hc hn hY hY1 hY2
    go_enter Tryz.func201, Tryz.ntmps201
    go_wp2
    go_end0
    exact ⟨rfl, HX.out, World.grownBy_alloc _ _ _⟩
set_option maxHeartbeats 1000000 in
set_option maxRecDepth 100000 in
theorem cut_mat (f : Int × PT → Nat → Int) (v : Value) (X : TR) (row : Nat) (w : World) (h : ColX w 37 12 (fun x => [.int .i64 (f x 0), .int .i64 (f x 1), .int .i64 (f x 2), .int .i64 (f x 3), .int .i64 (f x 4), .int .i64 (f x 5), .int .i64 (f x 6), .int .i64 (f x 7), .int .i64 (f x 8), .int .i64 (f x 9), .int .i64 (f x 10), .int .i64 (f x 11)]) v X) (hX : X.length ≤ 1000) :
    Calls Tryz.prog 185 #[v, .int .i64 row] w fun e w' => ∃ u, e = .returned u ∧ ColX w' 37 12 (fun x => [.int .i64 (f x 0), .int .i64 (f x 1), .int .i64 (f x 2), .int .i64 (f x 3), .int .i64 (f x 4), .int .i64 (f x 5), .int .i64 (f x 6), .int .i64 (f x 7), .int .i64 (f x 8), .int .i64 (f x 9), .int .i64 (f x 10), .int .i64 (f x 11)]) u (cutL X row) ∧ w.grownBy w' v.ownBlock ∧ u.ownBlock = v.ownBlock := by
  have hc : ∀ x, ((fun x => [.int .i64 (f x 0), .int .i64 (f x 1), .int .i64 (f x 2), .int .i64 (f x 3), .int .i64 (f x 4), .int .i64 (f x 5), .int .i64 (f x 6), .int .i64 (f x 7), .int .i64 (f x 8), .int .i64 (f x 9), .int .i64 (f x 10), .int .i64 (f x 11)]) x : List Value).length = 12 := fun _ => rfl
  obtain ⟨n, hn⟩ : ∃ n, n = X.length := ⟨_, rfl⟩
  by_cases hlt : row < X.length
  · obtain ⟨g, cap, cur, rfl, hbk, hcap, hmax, _, _⟩ := h.open_ (by omega)
    obtain ⟨m, rfl⟩ : ∃ m, n = m + 1 := ⟨n - 1, by omega⟩
    have hr := h.range hc (getD_at (i := m) (by omega))
    have hg := hbk.lt
    obtain ⟨zr, hzr⟩ : ∃ zr, zr = X.getD m d0 := ⟨_, rfl⟩
    rw [← hzr] at hr
    have r0 : (0 : Int) ≤ (row : Int) := by omega
    obtain ⟨Y, hY⟩ : ∃ Y : List Value, Y = [.int .i64 (f zr 0), .int .i64 (f zr 1), .int .i64 (f zr 2), .int .i64 (f zr 3), .int .i64 (f zr 4), .int .i64 (f zr 5), .int .i64 (f zr 6), .int .i64 (f zr 7), .int .i64 (f zr 8), .int .i64 (f zr 9), .int .i64 (f zr 10), .int .i64 (f zr 11)] := ⟨_, rfl⟩
    have hY1 : Y.length = 12 := by rw [hY]; rfl
    have hY2 : Y.toArray.all (·.oneCell') = true := by rw [hY]; exact one_mat _
    have HSz : Hid ((Tryz.prog.info? 37).map (·.size) = some Y.length) := Lib.hid (by rw [hY1]; exact info_mat)
    have HSz' : Hid ((Tryz.prog.info? 37).map (·.size) = some Y.toArray.size) := Lib.hid (by rw [List.size_toArray, hY1]; exact info_mat)
    have HO := Lib.hid hY2
    have HL := Lib.hid hY1
    have HS := h.set_ hc hlt zr
    simp only [← hY] at hr HS
    have HR := Lib.hid hr
    have HT : Hid (w.there g (row * 12) Y.toArray.size) := Lib.hid (by rw [List.size_toArray, hY1]; exact h.there hlt)
    replace HS := Lib.hid (HS.take_ hc (m := m) (by rw [List.length_set]; omega) (by rw [List.length_set]; omega))
    have eL : cutL X row = (X.set row zr).take m := by rw [hzr]; unfold cutL; rw [if_pos hlt, ← hn]; rfl
    rw [eL]
    rw [← hn] at hlt hX hcap ⊢
    have r1 : (row : Int) < ((m + 1 : Nat) : Int) := by omega
    have HG := Lib.hid (grown_sets Y w g (row * 12))
    unfold maxLen at hmax
    clear h hc hn hY hbk hY1 hY2 hr eL hzr
    go_enter Tryz.func185, Tryz.ntmps185
    go_wp2_with (first | refine wpList_load_mid rfl 37 (.tmp 18) rfl g (m * 12) rfl Y _ HR.out Tryz.underlying37 rfl HSz.out ?_ | refine wpList_store_mid rfl 37 (.tmp 20) (.tmp 19) rfl g (row * 12) Y.toArray rfl rfl HT.out HSz'.out HO.out ?_)
    go_ret
    exact ⟨_, rfl, HS.out, HG.out, rfl⟩
  · obtain ⟨a, cap, rfl, hcap, hmax⟩ := h.form
    have HX := Lib.hid h
    have eL : cutL X row = X := by unfold cutL; rw [if_neg hlt]
    rw [eL]
    rw [← hn] at hlt hX hcap HX ⊢
    have r1 : ¬ (row : Int) < (n : Int) := by omega
    clear h hc hn eL
    go_enter Tryz.func185, Tryz.ntmps185
    go_wp2
    go_ret
    exact ⟨_, rfl, HX.out, ⟨rfl, rfl, rfl, Nat.le_refl _, fun _ _ _ => rfl⟩, rfl⟩

theorem one_box (M : Nat → Int) : (([.int .i64 (M 0), .int .i64 (M 1), .int .i64 (M 2), .int .i64 (M 3), .int .i64 (M 4), .int .i64 (M 5)] : List Value).toArray.all (·.oneCell') = true) := all_oneCell_toArray (fun v hv => by
  simp only [List.mem_cons, List.not_mem_nil, or_false] at hv
  rcases hv with rfl | rfl | rfl | rfl | rfl | rfl <;> rfl)
theorem info_box : (Tryz.prog.info? 41).map (·.size) = some 6 := by kernel_rfl
set_option maxHeartbeats 1000000 in
set_option maxRecDepth 100000 in
theorem at_box (f : Int × PT → Nat → Int) (v : Value) (X : TR) (row : Nat) (w : World) (h : ColX w 41 6 (fun x => [.int .i64 (f x 0), .int .i64 (f x 1), .int .i64 (f x 2), .int .i64 (f x 3), .int .i64 (f x 4), .int .i64 (f x 5)]) v X) (hX : X.length ≤ 1000) (hz : ∀ j, f d0 j = 0) :
    Calls Tryz.prog 145 #[v, .int .i64 row] w fun e w' => e = .returned (.agg #[.int .i64 (f (X.getD row d0) 0), .int .i64 (f (X.getD row d0) 1), .int .i64 (f (X.getD row d0) 2), .int .i64 (f (X.getD row d0) 3), .int .i64 (f (X.getD row d0) 4), .int .i64 (f (X.getD row d0) 5)]) ∧ Below w.heap.size w w' := by
  have hc : ∀ x, ((fun x => [.int .i64 (f x 0), .int .i64 (f x 1), .int .i64 (f x 2), .int .i64 (f x 3), .int .i64 (f x 4), .int .i64 (f x 5)]) x : List Value).length = 6 := fun _ => rfl
  obtain ⟨n, hn⟩ : ∃ n, n = X.length := ⟨_, rfl⟩
  by_cases hlt : row < X.length
  · obtain ⟨g, cap, cur, rfl, hbk, hcap, hmax, _, _⟩ := h.open_ (by omega)
    have hr := h.range hc (getD_at hlt)
    have hg := hbk.lt
    have r0 : (0 : Int) ≤ (row : Int) := by omega
    obtain ⟨Y, hY⟩ : ∃ Y : List Value, Y = [.int .i64 (f (X.getD row d0) 0), .int .i64 (f (X.getD row d0) 1), .int .i64 (f (X.getD row d0) 2), .int .i64 (f (X.getD row d0) 3), .int .i64 (f (X.getD row d0) 4), .int .i64 (f (X.getD row d0) 5)] := ⟨_, rfl⟩
    have hY1 : Y.length = 6 := by rw [hY]; rfl
    have hY2 : Y.toArray.all (·.oneCell') = true := by rw [hY]; exact one_box _
    rw [show (#[.int .i64 (f (X.getD row d0) 0), .int .i64 (f (X.getD row d0) 1), .int .i64 (f (X.getD row d0) 2), .int .i64 (f (X.getD row d0) 3), .int .i64 (f (X.getD row d0) 4), .int .i64 (f (X.getD row d0) 5)] : Array Value) = Y.toArray by rw [hY]]
    simp only [← hY] at hr
    have HSz : Hid ((Tryz.prog.info? 41).map (·.size) = some Y.length) := Lib.hid (by rw [hY1]; exact info_box)
    have HSz' : Hid ((Tryz.prog.info? 41).map (·.size) = some Y.toArray.size) := Lib.hid (by rw [List.size_toArray, hY1]; exact info_box)
    have HO := Lib.hid hY2
    have HL := Lib.hid hY1
    have HR : Hid (((w.alloc (.cells #[.int .i64 0, .int .i64 0, .int .i64 0, .int .i64 0, .int .i64 0, .int .i64 0] 41)).alloc (.cells #[.int .i64 0, .int .i64 0, .int .i64 0, .int .i64 0, .int .i64 0, .int .i64 0] 41)).rangeAt g (row * 6) Y) := Lib.hid (range_same hr ((balloc (alloc_below _ _) _).block g hg))
    have K5 : Hid (Blk ((w.alloc (.cells #[.int .i64 0, .int .i64 0, .int .i64 0, .int .i64 0, .int .i64 0, .int .i64 0] 41)).alloc (.cells #[.int .i64 0, .int .i64 0, .int .i64 0, .int .i64 0, .int .i64 0, .int .i64 0] 41)) (w.heap.size + 1) 41 ([.int .i64 0, .int .i64 0, .int .i64 0, .int .i64 0, .int .i64 0, .int .i64 0] : List Value).toArray) := Lib.hid (blkAt (Blk.new (w.alloc (.cells #[.int .i64 0, .int .i64 0, .int .i64 0, .int .i64 0, .int .i64 0, .int .i64 0] 41)) 41 #[.int .i64 0, .int .i64 0, .int .i64 0, .int .i64 0, .int .i64 0, .int .i64 0]) (by simp))
    have K4 : Hid (Blk ((w.alloc (.cells #[.int .i64 0, .int .i64 0, .int .i64 0, .int .i64 0, .int .i64 0, .int .i64 0] 41)).alloc (.cells #[.int .i64 0, .int .i64 0, .int .i64 0, .int .i64 0, .int .i64 0, .int .i64 0] 41)) w.heap.size 41 ([.int .i64 0, .int .i64 0, .int .i64 0, .int .i64 0, .int .i64 0, .int .i64 0] : List Value).toArray) := Lib.hid ((Blk.new w 41 #[.int .i64 0, .int .i64 0, .int .i64 0, .int .i64 0, .int .i64 0, .int .i64 0]).alloc (.cells #[.int .i64 0, .int .i64 0, .int .i64 0, .int .i64 0, .int .i64 0, .int .i64 0] 41))
    have HT5 : Hid (((w.alloc (.cells #[.int .i64 0, .int .i64 0, .int .i64 0, .int .i64 0, .int .i64 0, .int .i64 0] 41)).alloc (.cells #[.int .i64 0, .int .i64 0, .int .i64 0, .int .i64 0, .int .i64 0, .int .i64 0] 41)).there (w.heap.size + 1) 0 Y.toArray.size) := Lib.hid (blk_there K5.out (by rw [List.size_toArray, hY1]; exact Nat.le_refl 6))
    have L5 : Hid (Blk (((w.alloc (.cells #[.int .i64 0, .int .i64 0, .int .i64 0, .int .i64 0, .int .i64 0, .int .i64 0] 41)).alloc (.cells #[.int .i64 0, .int .i64 0, .int .i64 0, .int .i64 0, .int .i64 0, .int .i64 0] 41)).setCells (w.heap.size + 1) 0 Y) (w.heap.size + 1) 41 Y.toArray) := Lib.hid (blk_over K5.out hY1)
    have L4 : Hid (Blk (((w.alloc (.cells #[.int .i64 0, .int .i64 0, .int .i64 0, .int .i64 0, .int .i64 0, .int .i64 0] 41)).alloc (.cells #[.int .i64 0, .int .i64 0, .int .i64 0, .int .i64 0, .int .i64 0, .int .i64 0] 41)).setCells (w.heap.size + 1) 0 Y) w.heap.size 41 ([.int .i64 0, .int .i64 0, .int .i64 0, .int .i64 0, .int .i64 0, .int .i64 0] : List Value).toArray) := Lib.hid (blk_setFar Y K4.out (by omega))
    have HR5 : Hid ((((w.alloc (.cells #[.int .i64 0, .int .i64 0, .int .i64 0, .int .i64 0, .int .i64 0, .int .i64 0] 41)).alloc (.cells #[.int .i64 0, .int .i64 0, .int .i64 0, .int .i64 0, .int .i64 0, .int .i64 0] 41)).setCells (w.heap.size + 1) 0 Y).rangeAt (w.heap.size + 1) 0 Y) := Lib.hid (blk_whole L5.out)
    have HT4 : Hid ((((w.alloc (.cells #[.int .i64 0, .int .i64 0, .int .i64 0, .int .i64 0, .int .i64 0, .int .i64 0] 41)).alloc (.cells #[.int .i64 0, .int .i64 0, .int .i64 0, .int .i64 0, .int .i64 0, .int .i64 0] 41)).setCells (w.heap.size + 1) 0 Y).there w.heap.size 0 Y.toArray.size) := Lib.hid (blk_there L4.out (by rw [List.size_toArray, hY1]; exact Nat.le_refl 6))
    have M4 : Hid (Blk ((((w.alloc (.cells #[.int .i64 0, .int .i64 0, .int .i64 0, .int .i64 0, .int .i64 0, .int .i64 0] 41)).alloc (.cells #[.int .i64 0, .int .i64 0, .int .i64 0, .int .i64 0, .int .i64 0, .int .i64 0] 41)).setCells (w.heap.size + 1) 0 Y).setCells w.heap.size 0 Y) w.heap.size 41 Y.toArray) := Lib.hid (blk_over L4.out hY1)
    have HB : Hid (Below w.heap.size w ((((w.alloc (.cells #[.int .i64 0, .int .i64 0, .int .i64 0, .int .i64 0, .int .i64 0, .int .i64 0] 41)).alloc (.cells #[.int .i64 0, .int .i64 0, .int .i64 0, .int .i64 0, .int .i64 0, .int .i64 0] 41)).setCells (w.heap.size + 1) 0 Y).setCells w.heap.size 0 Y)) := Lib.hid (below_setCells _ (below_setCells _ (balloc (alloc_below _ _) _) (by omega)) (Nat.le_refl _))
    rw [← hn] at hlt hX hcap ⊢
    have r1 : (row : Int) < (n : Int) := by omega
    clear h hc hn hz hr hY hbk hY1 hY2
    go_enter Tryz.func145, Tryz.ntmps145
    go_wp2_with (first | refine wpList_load_mid rfl 41 (.tmp 12) rfl g (row * 6) rfl Y _ HR.out Tryz.underlying41 rfl HSz.out ?_ | refine wpList_store_mid rfl 41 (.tmp 5) (.tmp 13) rfl (w.heap.size + 1) 0 Y.toArray rfl rfl HT5.out HSz'.out HO.out ?_ | refine wpList_load_mid rfl 41 (.tmp 5) rfl (w.heap.size + 1) 0 rfl Y _ HR5.out Tryz.underlying41 rfl HSz.out ?_ | refine wpList_store_mid rfl 41 (.tmp 4) (.tmp 14) rfl w.heap.size 0 Y.toArray rfl rfl HT4.out HSz'.out HO.out ?_)
    refine fin (fun W => Blk W w.heap.size 41 Y.toArray ∧ Below w.heap.size w W) ⟨M4.out, HB.out⟩ ?_
    rintro W ⟨kr, hb⟩
    have hl := run_loadVar_mid W w.heap.size 0 41 Y _ (blk_whole kr) Tryz.underlying41 rfl HSz.out
    try simp only [Act.put, List.setIfInBounds_toArray, List.set_cons_zero, List.set_cons_succ]
    exact bodyPost_ret (v := .agg Y.toArray) (results_cell Tryz.results145 rfl hl) rfl ⟨rfl, hb⟩
  · obtain ⟨a, cap, rfl, hcap, hmax⟩ := h.form
    rw [getD_no hlt]
    simp only [hz]
    obtain ⟨Y, hY⟩ : ∃ Y : List Value, Y = [.int .i64 0, .int .i64 0, .int .i64 0, .int .i64 0, .int .i64 0, .int .i64 0] := ⟨_, rfl⟩
    have hY1 : Y.length = 6 := by rw [hY]; rfl
    have hY2 : Y.toArray.all (·.oneCell') = true := by rw [hY]; exact one_box (fun _ => 0)
    rw [show (#[.int .i64 0, .int .i64 0, .int .i64 0, .int .i64 0, .int .i64 0, .int .i64 0] : Array Value) = Y.toArray by rw [hY]]
    have HSz : Hid ((Tryz.prog.info? 41).map (·.size) = some Y.length) := Lib.hid (by rw [hY1]; exact info_box)
    have HSz' : Hid ((Tryz.prog.info? 41).map (·.size) = some Y.toArray.size) := Lib.hid (by rw [List.size_toArray, hY1]; exact info_box)
    have HO := Lib.hid hY2
    have HL := Lib.hid hY1
    have K5 : Hid (Blk ((w.alloc (.cells #[.int .i64 0, .int .i64 0, .int .i64 0, .int .i64 0, .int .i64 0, .int .i64 0] 41)).alloc (.cells #[.int .i64 0, .int .i64 0, .int .i64 0, .int .i64 0, .int .i64 0, .int .i64 0] 41)) (w.heap.size + 1) 41 Y.toArray) := Lib.hid (by rw [hY]; exact blkAt (Blk.new (w.alloc (.cells #[.int .i64 0, .int .i64 0, .int .i64 0, .int .i64 0, .int .i64 0, .int .i64 0] 41)) 41 #[.int .i64 0, .int .i64 0, .int .i64 0, .int .i64 0, .int .i64 0, .int .i64 0]) (by simp))
    have K4 : Hid (Blk ((w.alloc (.cells #[.int .i64 0, .int .i64 0, .int .i64 0, .int .i64 0, .int .i64 0, .int .i64 0] 41)).alloc (.cells #[.int .i64 0, .int .i64 0, .int .i64 0, .int .i64 0, .int .i64 0, .int .i64 0] 41)) w.heap.size 41 Y.toArray) := Lib.hid (by rw [hY]; exact (Blk.new w 41 #[.int .i64 0, .int .i64 0, .int .i64 0, .int .i64 0, .int .i64 0, .int .i64 0]).alloc (.cells #[.int .i64 0, .int .i64 0, .int .i64 0, .int .i64 0, .int .i64 0, .int .i64 0] 41))
    have HR5 : Hid (((w.alloc (.cells #[.int .i64 0, .int .i64 0, .int .i64 0, .int .i64 0, .int .i64 0, .int .i64 0] 41)).alloc (.cells #[.int .i64 0, .int .i64 0, .int .i64 0, .int .i64 0, .int .i64 0, .int .i64 0] 41)).rangeAt (w.heap.size + 1) 0 Y) := Lib.hid (blk_whole K5.out)
    have HT4 : Hid (((w.alloc (.cells #[.int .i64 0, .int .i64 0, .int .i64 0, .int .i64 0, .int .i64 0, .int .i64 0] 41)).alloc (.cells #[.int .i64 0, .int .i64 0, .int .i64 0, .int .i64 0, .int .i64 0, .int .i64 0] 41)).there w.heap.size 0 Y.toArray.size) := Lib.hid (blk_there K4.out (by rw [List.size_toArray]; omega))
    have M4 : Hid (Blk (((w.alloc (.cells #[.int .i64 0, .int .i64 0, .int .i64 0, .int .i64 0, .int .i64 0, .int .i64 0] 41)).alloc (.cells #[.int .i64 0, .int .i64 0, .int .i64 0, .int .i64 0, .int .i64 0, .int .i64 0] 41)).setCells w.heap.size 0 Y) w.heap.size 41 Y.toArray) := Lib.hid (blk_over K4.out rfl)
    have HB : Hid (Below w.heap.size w (((w.alloc (.cells #[.int .i64 0, .int .i64 0, .int .i64 0, .int .i64 0, .int .i64 0, .int .i64 0] 41)).alloc (.cells #[.int .i64 0, .int .i64 0, .int .i64 0, .int .i64 0, .int .i64 0, .int .i64 0] 41)).setCells w.heap.size 0 Y)) := Lib.hid (below_setCells _ (balloc (alloc_below _ _) _) (Nat.le_refl _))
    rw [← hn] at hlt hX hcap ⊢
    have r1 : ¬ (row : Int) < (n : Int) := by omega
    clear h hc hn hz hY hY1 hY2
    go_enter Tryz.func145, Tryz.ntmps145
    go_wp2_with (first | refine wpList_load_mid rfl 41 (.tmp 5) rfl (w.heap.size + 1) 0 rfl Y _ HR5.out Tryz.underlying41 rfl HSz.out ?_ | refine wpList_store_mid rfl 41 (.tmp 4) (.tmp 14) rfl w.heap.size 0 Y.toArray rfl rfl HT4.out HSz'.out HO.out ?_)
    refine fin (fun W => Blk W w.heap.size 41 Y.toArray ∧ Below w.heap.size w W) ⟨M4.out, HB.out⟩ ?_
    rintro W ⟨kr, hb⟩
    have hl := run_loadVar_mid W w.heap.size 0 41 Y _ (blk_whole kr) Tryz.underlying41 rfl HSz.out
    try simp only [Act.put, List.setIfInBounds_toArray, List.set_cons_zero, List.set_cons_succ]
    exact bodyPost_ret (v := .agg Y.toArray) (results_cell Tryz.results145 rfl hl) rfl ⟨rfl, hb⟩
set_option maxHeartbeats 1000000 in
set_option maxRecDepth 100000 in
theorem put_box (f : Int × PT → Nat → Int) (v : Value) (X : TR) (row : Nat) (w : World) (h : ColX w 41 6 (fun x => [.int .i64 (f x 0), .int .i64 (f x 1), .int .i64 (f x 2), .int .i64 (f x 3), .int .i64 (f x 4), .int .i64 (f x 5)]) v X) (hX : X.length ≤ 1000) (y : Int × PT) :
    Calls Tryz.prog 203 #[v, .int .i64 row, .agg #[.int .i64 (f y 0), .int .i64 (f y 1), .int .i64 (f y 2), .int .i64 (f y 3), .int .i64 (f y 4), .int .i64 (f y 5)]] w fun e w' => e = .returned (.tuple #[]) ∧ ColX w' 41 6 (fun x => [.int .i64 (f x 0), .int .i64 (f x 1), .int .i64 (f x 2), .int .i64 (f x 3), .int .i64 (f x 4), .int .i64 (f x 5)]) v (X.set row y) ∧ w.grownBy w' v.ownBlock := by
  have hc : ∀ x, ((fun x => [.int .i64 (f x 0), .int .i64 (f x 1), .int .i64 (f x 2), .int .i64 (f x 3), .int .i64 (f x 4), .int .i64 (f x 5)]) x : List Value).length = 6 := fun _ => rfl
  obtain ⟨n, hn⟩ : ∃ n, n = X.length := ⟨_, rfl⟩
  obtain ⟨Y, hY⟩ : ∃ Y : List Value, Y = [.int .i64 (f y 0), .int .i64 (f y 1), .int .i64 (f y 2), .int .i64 (f y 3), .int .i64 (f y 4), .int .i64 (f y 5)] := ⟨_, rfl⟩
  have hY1 : Y.length = 6 := by rw [hY]; rfl
  have hY2 : Y.toArray.all (·.oneCell') = true := by rw [hY]; exact one_box _
  rw [show (#[.int .i64 (f y 0), .int .i64 (f y 1), .int .i64 (f y 2), .int .i64 (f y 3), .int .i64 (f y 4), .int .i64 (f y 5)] : Array Value) = Y.toArray by rw [hY]]
  by_cases hlt : row < X.length
  · obtain ⟨g, cap, cur, rfl, hbk, hcap, hmax, _, _⟩ := h.open_ (by omega)
    have hg := hbk.lt
    have r0 : (0 : Int) ≤ (row : Int) := by omega
    have HSz : Hid ((Tryz.prog.info? 41).map (·.size) = some Y.length) := Lib.hid (by rw [hY1]; exact info_box)
    have HSz' : Hid ((Tryz.prog.info? 41).map (·.size) = some Y.toArray.size) := Lib.hid (by rw [List.size_toArray, hY1]; exact info_box)
    have HO := Lib.hid hY2
    have HL := Lib.hid hY1
    have h1 : ColX (w.alloc (.cells Y.toArray 41)) 41 6 (fun x => [.int .i64 (f x 0), .int .i64 (f x 1), .int .i64 (f x 2), .int .i64 (f x 3), .int .i64 (f x 4), .int .i64 (f x 5)]) (.slice (some ⟨g, 0, none⟩) X.length cap) X := h.kept (World.grownBy_alloc w _ none) (by simp [Value.ownBlock])
    have KB := Lib.hid (Blk.new w 41 Y.toArray)
    have HR : Hid ((w.alloc (.cells Y.toArray 41)).rangeAt w.heap.size 0 Y) := Lib.hid (blk_whole KB.out)
    have HT : Hid ((w.alloc (.cells Y.toArray 41)).there g (row * 6) Y.toArray.size) := Lib.hid (by rw [List.size_toArray, hY1]; exact h1.there hlt)
    have HS := h1.set_ hc hlt y
    simp only [← hY] at HS
    replace HS := Lib.hid HS
    have HG : Hid (w.grownBy ((w.alloc (.cells Y.toArray 41)).setCells g (row * 6) Y) (some g)) := Lib.hid ((World.grownBy_alloc w _ _).trans (grown_sets Y _ g (row * 6)))
    rw [← hn] at hlt hX hcap HS ⊢
    have r1 : (row : Int) < (n : Int) := by omega
    clear h hc hn hY hbk hY1 hY2 h1
    go_enter Tryz.func203, Tryz.ntmps203
    go_wp2_with (first | refine wpList_load_mid rfl 41 (.tmp 5) rfl w.heap.size 0 rfl Y _ HR.out Tryz.underlying41 rfl HSz.out ?_ | refine wpList_store_mid rfl 41 (.tmp 13) (.tmp 12) rfl g (row * 6) Y.toArray rfl rfl HT.out HSz'.out HO.out ?_)
    go_end0
    exact ⟨rfl, HS.out, HG.out⟩
  · obtain ⟨a, cap, rfl, hcap, hmax⟩ := h.form
    have HX : Hid (ColX (w.alloc (.cells Y.toArray 41)) 41 6 (fun x => [.int .i64 (f x 0), .int .i64 (f x 1), .int .i64 (f x 2), .int .i64 (f x 3), .int .i64 (f x 4), .int .i64 (f x 5)]) (.slice a X.length cap) X) := Lib.hid (h.kept (World.grownBy_alloc w _ none) (by cases hv : (Value.slice a X.length cap).ownBlock <;> simp))
    rw [List.set_eq_of_length_le (Nat.le_of_not_lt hlt)]
    rw [← hn] at hlt hX hcap HX ⊢
    have r1 : ¬ (row : Int) < (n : Int) := by omega
    clear h hc hn hY hY1 hY2
    go_enter Tryz.func203, Tryz.ntmps203
    go_wp2
    go_end0
    exact ⟨rfl, HX.out, World.grownBy_alloc _ _ _⟩
set_option maxHeartbeats 1000000 in
set_option maxRecDepth 100000 in
theorem cut_box (f : Int × PT → Nat → Int) (v : Value) (X : TR) (row : Nat) (w : World) (h : ColX w 41 6 (fun x => [.int .i64 (f x 0), .int .i64 (f x 1), .int .i64 (f x 2), .int .i64 (f x 3), .int .i64 (f x 4), .int .i64 (f x 5)]) v X) (hX : X.length ≤ 1000) :
    Calls Tryz.prog 187 #[v, .int .i64 row] w fun e w' => ∃ u, e = .returned u ∧ ColX w' 41 6 (fun x => [.int .i64 (f x 0), .int .i64 (f x 1), .int .i64 (f x 2), .int .i64 (f x 3), .int .i64 (f x 4), .int .i64 (f x 5)]) u (cutL X row) ∧ w.grownBy w' v.ownBlock ∧ u.ownBlock = v.ownBlock := by
  have hc : ∀ x, ((fun x => [.int .i64 (f x 0), .int .i64 (f x 1), .int .i64 (f x 2), .int .i64 (f x 3), .int .i64 (f x 4), .int .i64 (f x 5)]) x : List Value).length = 6 := fun _ => rfl
  obtain ⟨n, hn⟩ : ∃ n, n = X.length := ⟨_, rfl⟩
  by_cases hlt : row < X.length
  · obtain ⟨g, cap, cur, rfl, hbk, hcap, hmax, _, _⟩ := h.open_ (by omega)
    obtain ⟨m, rfl⟩ : ∃ m, n = m + 1 := ⟨n - 1, by omega⟩
    have hr := h.range hc (getD_at (i := m) (by omega))
    have hg := hbk.lt
    obtain ⟨zr, hzr⟩ : ∃ zr, zr = X.getD m d0 := ⟨_, rfl⟩
    rw [← hzr] at hr
    have r0 : (0 : Int) ≤ (row : Int) := by omega
    obtain ⟨Y, hY⟩ : ∃ Y : List Value, Y = [.int .i64 (f zr 0), .int .i64 (f zr 1), .int .i64 (f zr 2), .int .i64 (f zr 3), .int .i64 (f zr 4), .int .i64 (f zr 5)] := ⟨_, rfl⟩
    have hY1 : Y.length = 6 := by rw [hY]; rfl
    have hY2 : Y.toArray.all (·.oneCell') = true := by rw [hY]; exact one_box _
    have HSz : Hid ((Tryz.prog.info? 41).map (·.size) = some Y.length) := Lib.hid (by rw [hY1]; exact info_box)
    have HSz' : Hid ((Tryz.prog.info? 41).map (·.size) = some Y.toArray.size) := Lib.hid (by rw [List.size_toArray, hY1]; exact info_box)
    have HO := Lib.hid hY2
    have HL := Lib.hid hY1
    have HS := h.set_ hc hlt zr
    simp only [← hY] at hr HS
    have HR := Lib.hid hr
    have HT : Hid (w.there g (row * 6) Y.toArray.size) := Lib.hid (by rw [List.size_toArray, hY1]; exact h.there hlt)
    replace HS := Lib.hid (HS.take_ hc (m := m) (by rw [List.length_set]; omega) (by rw [List.length_set]; omega))
    have eL : cutL X row = (X.set row zr).take m := by rw [hzr]; unfold cutL; rw [if_pos hlt, ← hn]; rfl
    rw [eL]
    rw [← hn] at hlt hX hcap ⊢
    have r1 : (row : Int) < ((m + 1 : Nat) : Int) := by omega
    have HG := Lib.hid (grown_sets Y w g (row * 6))
    unfold maxLen at hmax
    clear h hc hn hY hbk hY1 hY2 hr eL hzr
    go_enter Tryz.func187, Tryz.ntmps187
    go_wp2_with (first | refine wpList_load_mid rfl 41 (.tmp 18) rfl g (m * 6) rfl Y _ HR.out Tryz.underlying41 rfl HSz.out ?_ | refine wpList_store_mid rfl 41 (.tmp 20) (.tmp 19) rfl g (row * 6) Y.toArray rfl rfl HT.out HSz'.out HO.out ?_)
    go_ret
    exact ⟨_, rfl, HS.out, HG.out, rfl⟩
  · obtain ⟨a, cap, rfl, hcap, hmax⟩ := h.form
    have HX := Lib.hid h
    have eL : cutL X row = X := by unfold cutL; rw [if_neg hlt]
    rw [eL]
    rw [← hn] at hlt hX hcap HX ⊢
    have r1 : ¬ (row : Int) < (n : Int) := by omega
    clear h hc hn eL
    go_enter Tryz.func187, Tryz.ntmps187
    go_wp2
    go_ret
    exact ⟨_, rfl, HX.out, ⟨rfl, rfl, rfl, Nat.le_refl _, fun _ _ _ => rfl⟩, rfl⟩

end Go.Proofs.YtkondkajpmafkaaGreat
