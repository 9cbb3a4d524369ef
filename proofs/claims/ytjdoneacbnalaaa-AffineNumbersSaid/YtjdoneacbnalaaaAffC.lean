/-
  What package affine's Move answers, and the reference's.
-/
import Derived.Test.YtjdoneacbnalaaaAffB
namespace Go.Proofs.Ytjdoneacbnalaaa
open Go.RowKit

set_option maxHeartbeats 1000000 in
theorem move_xyz (x y z : Int) (w : World) :
    Calls Try.prog 16 #[.agg #[.int .i64 x, .int .i64 y, .int .i64 z]] w fun e w' => e = .returned (.agg #[.int .i64 65536, .int .i64 0, .int .i64 0, .int .i64 x, .int .i64 0, .int .i64 65536, .int .i64 0, .int .i64 y, .int .i64 0, .int .i64 0, .int .i64 65536, .int .i64 z]) ∧ Below w.heap.size w w' := by
  go_enter Try.func16, Try.ntmps16
  go_wp2_with fail
  refine (same_any _).mono ?_
  rintro e w1 ⟨rfl, b1⟩
  have K1 := Lib.hid (blkAt ((Blk.new (w.alloc _) 25 _).keep b1) (g' := w.heap.size + 1) (by simp))
  have L1 := Lib.hid (((Blk.new w 27 _).alloc _).keep b1)
  have B1 := Lib.hid (bthen (balloc (alloc_below _ _) _) b1)
  clear b1
  obtain ⟨d0, d1, d2, _, _, _⟩ := blk3 L1.out
  have z2 := L1.out.lt
  go_wp2
  refine wp_loop_rounds 4 ?_
  rw [rounds_succ]
  go_wp2
  go_region_held3 (fun w' => w'.cell? ⟨w.heap.size, 0, none⟩ = some (.int .i64 x)) (first | go_keep)
    (first | (go_at_call 28; refine (at_last 0 _ (by omega)).mono ?_; rintro e w1 ⟨rfl, rfl⟩))
  go_wp2
  rw [rounds_succ]
  go_wp2
  go_region_held3 (fun w' => w'.cell? ⟨w.heap.size, 1, none⟩ = some (.int .i64 y)) (first | go_keep)
    (first | (go_at_call 28; refine (at_last 1 _ (by omega)).mono ?_; rintro e w1 ⟨rfl, rfl⟩))
  go_wp2
  rw [rounds_succ]
  go_wp2
  go_region_held3 (fun w' => w'.cell? ⟨w.heap.size, 2, none⟩ = some (.int .i64 z)) (first | go_keep)
    (first | (go_at_call 28; refine (at_last 2 _ (by omega)).mono ?_; rintro e w1 ⟨rfl, rfl⟩))
  go_wp2
  rw [rounds_succ]
  clear d0 d1 d2 z2
  refine fin (fun W => Blk W (w.heap.size + 1) 25 #[.int .i64 0, .int .i64 0, .int .i64 0, .int .i64 0, .int .i64 0, .int .i64 0, .int .i64 0, .int .i64 0, .int .i64 0, .int .i64 0, .int .i64 0, .int .i64 0] ∧ Blk W w1.heap.size 25 #[.int .i64 65536, .int .i64 0, .int .i64 0, .int .i64 x, .int .i64 0, .int .i64 65536, .int .i64 0, .int .i64 y, .int .i64 0, .int .i64 0, .int .i64 65536, .int .i64 z] ∧ Below w.heap.size w W) ⟨K1.out.alloc _, Blk.new w1 _ _, bdrewn (bdrewn (bdrewn (balloc B1.out _)))⟩ ?_
  rintro W ⟨hk, hm, hb⟩
  have HB := Lib.hid hb
  clear hb
  obtain ⟨c0, c1, c2, c3, c4, c5, c6, c7, c8, c9, c10, c11, f0, f1, f2, f3, f4, f5, f6, f7, f8, f9, f10, f11⟩ := blk12 hk
  obtain ⟨d0, d1, d2, d3, d4, d5, d6, d7, d8, d9, d10, d11, _, _, _, _, _, _, _, _, _, _, _, _⟩ := blk12 hm
  go_wp2
  exact bodyPost_ret (v := .agg #[.int .i64 65536, .int .i64 0, .int .i64 0, .int .i64 x, .int .i64 0, .int .i64 65536, .int .i64 0, .int .i64 y, .int .i64 0, .int .i64 0, .int .i64 65536, .int .i64 z]) (by simp [results, Try.results16, go_sem, c0, c1, c2, c3, c4, c5, c6, c7, c8, c9, c10, c11]) rfl ⟨rfl, bset12 HB.out (by omega)⟩

set_option maxHeartbeats 1000000 in
theorem rmove_xyz (x y z : Int) (w : World) :
    Calls Try.prog 17 #[.agg #[.int .i64 x, .int .i64 y, .int .i64 z]] w fun e w' => e = .returned (.agg #[.int .i64 65536, .int .i64 0, .int .i64 0, .int .i64 x, .int .i64 0, .int .i64 65536, .int .i64 0, .int .i64 y, .int .i64 0, .int .i64 0, .int .i64 65536, .int .i64 z]) ∧ Below w.heap.size w w' := by
  go_enter Try.func17, Try.ntmps17
  go_wp2_with fail
  refine (rsame_any _).mono ?_
  rintro e w1 ⟨rfl, b1⟩
  have K1 := Lib.hid (blkAt ((Blk.new (w.alloc _) 25 _).keep b1) (g' := w.heap.size + 1) (by simp))
  have L1 := Lib.hid (((Blk.new w 27 _).alloc _).keep b1)
  have B1 := Lib.hid (bthen (balloc (alloc_below _ _) _) b1)
  clear b1
  obtain ⟨d0, d1, d2, _, _, _⟩ := blk3 L1.out
  have z2 := L1.out.lt
  go_wp2
  refine wp_loop_rounds 4 ?_
  rw [rounds_succ]
  go_wp2
  rw [rounds_succ]
  go_wp2
  rw [rounds_succ]
  go_wp2
  rw [rounds_succ]
  clear d0 d1 d2 z2
  refine fin (fun W => Blk W (w.heap.size + 1) 25 #[.int .i64 0, .int .i64 0, .int .i64 0, .int .i64 0, .int .i64 0, .int .i64 0, .int .i64 0, .int .i64 0, .int .i64 0, .int .i64 0, .int .i64 0, .int .i64 0] ∧ Blk W w1.heap.size 25 #[.int .i64 65536, .int .i64 0, .int .i64 0, .int .i64 x, .int .i64 0, .int .i64 65536, .int .i64 0, .int .i64 y, .int .i64 0, .int .i64 0, .int .i64 65536, .int .i64 z] ∧ Below w.heap.size w W) ⟨K1.out.alloc _, Blk.new w1 _ _, balloc B1.out _⟩ ?_
  rintro W ⟨hk, hm, hb⟩
  have HB := Lib.hid hb
  clear hb
  obtain ⟨c0, c1, c2, c3, c4, c5, c6, c7, c8, c9, c10, c11, f0, f1, f2, f3, f4, f5, f6, f7, f8, f9, f10, f11⟩ := blk12 hk
  obtain ⟨d0, d1, d2, d3, d4, d5, d6, d7, d8, d9, d10, d11, _, _, _, _, _, _, _, _, _, _, _, _⟩ := blk12 hm
  go_wp2
  exact bodyPost_ret (v := .agg #[.int .i64 65536, .int .i64 0, .int .i64 0, .int .i64 x, .int .i64 0, .int .i64 65536, .int .i64 0, .int .i64 y, .int .i64 0, .int .i64 0, .int .i64 65536, .int .i64 z]) (by simp [results, Try.results17, go_sem, c0, c1, c2, c3, c4, c5, c6, c7, c8, c9, c10, c11]) rfl ⟨rfl, bset12 HB.out (by omega)⟩

end Go.Proofs.Ytjdoneacbnalaaa
