/-
  What package vec's closures answer at a place.
-/
import Derived.Test.YthdgldoailjhhaaVecB
import Derived.Deep.RegionHeld3
namespace Go.Proofs.Ythdgldoailjhhaa
open Go.RowKit

theorem enters_dot : Enters 49 := fun _ _ => by kernel_rfl

theorem bdrew {w w1 : World} (h : Below w.drew.heap.size w.drew w1) : Below w.heap.size w w1 := ⟨h.os, h.tape, h.output, h.size, h.block⟩
theorem cell_keepD {w w' : World} {x : Addr} {v : Value} (hb : Below w.drew.heap.size w.drew w') (h : w.cell? x = some v) : w'.cell? x = some v := cell_keep h (bdrew hb)

set_option maxHeartbeats 400000 in
theorem dot1_0 (ga gb : Nat) (x y : Int) (w : World) (c0 : w.cell? ⟨ga, 0, none⟩ = some (.int .i64 x)) (d0 : w.cell? ⟨gb, 0, none⟩ = some (.int .i64 y)) :
    Calls Try.prog 49 #[.int .i64 0, .pointer (some ⟨ga, 0, none⟩), .pointer (some ⟨gb, 0, none⟩)] w fun e w'' => e = .returned (.tuple #[.int .i64 (mulV x y), .int .i64 (mulE x y)]) ∧ Below w.heap.size w w'' := by
  go_enter Try.func49, Try.ntmps49
  go_wp2
  go_region_held3 (fun w' => w'.cell? ⟨ga, 0, none⟩ = some (.int .i64 x) ∧ w'.cell? ⟨gb, 0, none⟩ = some (.int .i64 y)) (first | exact ⟨cell_keepD b1 c0, cell_keepD b1 d0⟩ | go_keep)
    (first | (go_at_call 50; refine (mul_any _ _ _).mono ?_; rintro e w1 ⟨rfl, b1⟩))
  go_wp2
  go_ret2
  exact ⟨rfl, bdrew b1⟩

set_option maxHeartbeats 400000 in
theorem dot1_1 (ga gb : Nat) (x y : Int) (w : World) (c0 : w.cell? ⟨ga, 1, none⟩ = some (.int .i64 x)) (d0 : w.cell? ⟨gb, 1, none⟩ = some (.int .i64 y)) :
    Calls Try.prog 49 #[.int .i64 1, .pointer (some ⟨ga, 0, none⟩), .pointer (some ⟨gb, 0, none⟩)] w fun e w'' => e = .returned (.tuple #[.int .i64 (mulV x y), .int .i64 (mulE x y)]) ∧ Below w.heap.size w w'' := by
  go_enter Try.func49, Try.ntmps49
  go_wp2
  go_region_held3 (fun w' => w'.cell? ⟨ga, 1, none⟩ = some (.int .i64 x) ∧ w'.cell? ⟨gb, 1, none⟩ = some (.int .i64 y)) (first | exact ⟨cell_keepD b1 c0, cell_keepD b1 d0⟩ | go_keep)
    (first | (go_at_call 50; refine (mul_any _ _ _).mono ?_; rintro e w1 ⟨rfl, b1⟩))
  go_wp2
  go_ret2
  exact ⟨rfl, bdrew b1⟩

set_option maxHeartbeats 400000 in
theorem dot1_2 (ga gb : Nat) (x y : Int) (w : World) (c0 : w.cell? ⟨ga, 2, none⟩ = some (.int .i64 x)) (d0 : w.cell? ⟨gb, 2, none⟩ = some (.int .i64 y)) :
    Calls Try.prog 49 #[.int .i64 2, .pointer (some ⟨ga, 0, none⟩), .pointer (some ⟨gb, 0, none⟩)] w fun e w'' => e = .returned (.tuple #[.int .i64 (mulV x y), .int .i64 (mulE x y)]) ∧ Below w.heap.size w w'' := by
  go_enter Try.func49, Try.ntmps49
  go_wp2
  go_region_held3 (fun w' => w'.cell? ⟨ga, 2, none⟩ = some (.int .i64 x) ∧ w'.cell? ⟨gb, 2, none⟩ = some (.int .i64 y)) (first | exact ⟨cell_keepD b1 c0, cell_keepD b1 d0⟩ | go_keep)
    (first | (go_at_call 50; refine (mul_any _ _ _).mono ?_; rintro e w1 ⟨rfl, b1⟩))
  go_wp2
  go_ret2
  exact ⟨rfl, bdrew b1⟩

end Go.Proofs.Ythdgldoailjhhaa
