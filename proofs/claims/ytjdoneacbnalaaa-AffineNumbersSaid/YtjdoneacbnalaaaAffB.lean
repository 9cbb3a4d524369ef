/-
  What package affine's Scale, Same, Move and Turn answer, and the reference's.
-/
import Derived.Test.YtjdoneacbnalaaaAffA
namespace Go.Proofs.Ytjdoneacbnalaaa
open Go.RowKit

def diagM (V : Nat → Int) (k : Nat) : Int := if k = 0 then V 0 else if k = 5 then V 1 else if k = 10 then V 2 else 0
def sameM : Nat → Int := diagM (fun _ => 65536)
def moveM (V : Nat → Int) (k : Nat) : Int := if k = 3 then V 0 else if k = 7 then V 1 else if k = 11 then V 2 else sameM k
/-- a quarter round axis a -/
def turnM (a : Int) (k : Nat) : Int :=
  if a = 0 then [65536, 0, 0, 0, 0, 0, -65536, 0, 0, 65536, 0, 0].getD k 0
  else if a = 1 then [0, 0, 65536, 0, 0, 65536, 0, 0, -65536, 0, 0, 0].getD k 0
  else [0, -65536, 0, 0, 65536, 0, 0, 0, 0, 0, 65536, 0].getD k 0

/-- what is known of a world, in the place of the world -/
theorem fin {Q : World → Prop} {W : World} (P : World → Prop) (h : P W) (k : ∀ W', P W' → Q W') : Q W := k W h
theorem bdrewn {n : Nat} {w a : World} (h : Below n w a) : Below n w a.drew := ⟨h.os, h.tape, h.output, h.size, h.block⟩

set_option maxHeartbeats 1000000 in
theorem scale_xyz (x y z : Int) (w : World) :
    Calls Try.prog 18 #[.agg #[.int .i64 x, .int .i64 y, .int .i64 z]] w fun e w' => e = .returned (.agg #[.int .i64 x, .int .i64 0, .int .i64 0, .int .i64 0, .int .i64 0, .int .i64 y, .int .i64 0, .int .i64 0, .int .i64 0, .int .i64 0, .int .i64 z, .int .i64 0]) ∧ Below w.heap.size w w' := by
  go_enter Try.func18, Try.ntmps18
  go_wp2
  refine wp_loop_rounds 4 ?_
  rw [rounds_succ]
  go_wp2
  go_region_held3 (fun w' => w'.cell? ⟨w.heap.size, 0, none⟩ = some (.int .i64 x)) (first | go_keep)
    (first | (go_at_call 28; refine (at_any 0 0 _ (by omega) (by omega)).mono ?_; rintro e w1 ⟨rfl, rfl⟩))
  go_wp2
  rw [rounds_succ]
  go_wp2
  go_region_held3 (fun w' => w'.cell? ⟨w.heap.size, 1, none⟩ = some (.int .i64 y)) (first | go_keep)
    (first | (go_at_call 28; refine (at_any 1 1 _ (by omega) (by omega)).mono ?_; rintro e w1 ⟨rfl, rfl⟩))
  go_wp2
  rw [rounds_succ]
  go_wp2
  go_region_held3 (fun w' => w'.cell? ⟨w.heap.size, 2, none⟩ = some (.int .i64 z)) (first | go_keep)
    (first | (go_at_call 28; refine (at_any 2 2 _ (by omega) (by omega)).mono ?_; rintro e w1 ⟨rfl, rfl⟩))
  go_wp2
  rw [rounds_succ]
  go_wp2
  exact bodyPost_ret (v := .agg #[.int .i64 x, .int .i64 0, .int .i64 0, .int .i64 0, .int .i64 0, .int .i64 y, .int .i64 0, .int .i64 0, .int .i64 0, .int .i64 0, .int .i64 z, .int .i64 0]) (by simp [results, Try.results18, go_sem]) rfl ⟨rfl, bdrewn (bdrewn (bdrewn (balloc (balloc (alloc_below _ _) _) _)))⟩

set_option maxHeartbeats 1000000 in
theorem rdiag_xyz (x y z : Int) (w : World) :
    Calls Try.prog 19 #[.agg #[.int .i64 x, .int .i64 y, .int .i64 z]] w fun e w' => e = .returned (.agg #[.int .i64 x, .int .i64 0, .int .i64 0, .int .i64 0, .int .i64 0, .int .i64 y, .int .i64 0, .int .i64 0, .int .i64 0, .int .i64 0, .int .i64 z, .int .i64 0]) ∧ Below w.heap.size w w' := by
  go_enter Try.func19, Try.ntmps19
  go_wp2
  refine wp_loop_rounds 4 ?_
  rw [rounds_succ]
  go_wp2
  rw [rounds_succ]
  go_wp2
  rw [rounds_succ]
  go_wp2
  rw [rounds_succ]
  go_wp2
  exact bodyPost_ret (v := .agg #[.int .i64 x, .int .i64 0, .int .i64 0, .int .i64 0, .int .i64 0, .int .i64 y, .int .i64 0, .int .i64 0, .int .i64 0, .int .i64 0, .int .i64 z, .int .i64 0]) (by simp [results, Try.results19, go_sem]) rfl ⟨rfl, balloc (balloc (alloc_below _ _) _) _⟩

set_option maxHeartbeats 1000000 in
theorem same_any (w : World) :
    Calls Try.prog 14 #[] w fun e w' => e = .returned (.agg #[.int .i64 65536, .int .i64 0, .int .i64 0, .int .i64 0, .int .i64 0, .int .i64 65536, .int .i64 0, .int .i64 0, .int .i64 0, .int .i64 0, .int .i64 65536, .int .i64 0]) ∧ Below w.heap.size w w' := by
  go_enter Try.func14, Try.ntmps14
  go_wp2_with fail
  refine (scale_xyz 65536 65536 65536 _).mono ?_
  rintro e w1 ⟨rfl, b1⟩
  have K1 := Lib.hid ((Blk.new w 25 _).keep b1)
  have B1 := Lib.hid (bthen (alloc_below _ _) b1)
  clear b1
  obtain ⟨c0, c1, c2, c3, c4, c5, c6, c7, c8, c9, c10, c11, f0, f1, f2, f3, f4, f5, f6, f7, f8, f9, f10, f11⟩ := blk12 K1.out
  go_wp2
  exact bodyPost_ret (v := .agg #[.int .i64 65536, .int .i64 0, .int .i64 0, .int .i64 0, .int .i64 0, .int .i64 65536, .int .i64 0, .int .i64 0, .int .i64 0, .int .i64 0, .int .i64 65536, .int .i64 0]) (by simp [results, Try.results14, go_sem, c0, c1, c2, c3, c4, c5, c6, c7, c8, c9, c10, c11]) rfl ⟨rfl, bset12 B1.out (by omega)⟩

set_option maxHeartbeats 1000000 in
theorem rsame_any (w : World) :
    Calls Try.prog 15 #[] w fun e w' => e = .returned (.agg #[.int .i64 65536, .int .i64 0, .int .i64 0, .int .i64 0, .int .i64 0, .int .i64 65536, .int .i64 0, .int .i64 0, .int .i64 0, .int .i64 0, .int .i64 65536, .int .i64 0]) ∧ Below w.heap.size w w' := by
  go_enter Try.func15, Try.ntmps15
  go_wp2_with fail
  refine (rdiag_xyz 65536 65536 65536 _).mono ?_
  rintro e w1 ⟨rfl, b1⟩
  have K1 := Lib.hid ((Blk.new w 25 _).keep b1)
  have B1 := Lib.hid (bthen (alloc_below _ _) b1)
  clear b1
  obtain ⟨c0, c1, c2, c3, c4, c5, c6, c7, c8, c9, c10, c11, f0, f1, f2, f3, f4, f5, f6, f7, f8, f9, f10, f11⟩ := blk12 K1.out
  go_wp2
  exact bodyPost_ret (v := .agg #[.int .i64 65536, .int .i64 0, .int .i64 0, .int .i64 0, .int .i64 0, .int .i64 65536, .int .i64 0, .int .i64 0, .int .i64 0, .int .i64 0, .int .i64 65536, .int .i64 0]) (by simp [results, Try.results15, go_sem, c0, c1, c2, c3, c4, c5, c6, c7, c8, c9, c10, c11]) rfl ⟨rfl, bset12 B1.out (by omega)⟩

end Go.Proofs.Ytjdoneacbnalaaa
