/-
  The laws' own live question answers true.
-/
import Derived.Test.YtochehhdjgccoaaFixR
namespace Go.Proofs.Ytochehhdjgccoaa
open Go.RowKit

theorem alive_mul (w : World) : Calls Try.prog 13 #[.int .i64 98304, .int .i64 (-65537)] w fun e w' => e = .returned (.tuple #[.int .i64 (-98306), .int .i64 0]) ∧ Below w.heap.size w w' :=
  (mul_any 98304 (-65537) w).mono fun _ _ ⟨he, hw⟩ => ⟨by rw [he, show mulV 98304 (-65537) = -98306 by decide, show mulE 98304 (-65537) = 0 by decide], hw⟩
theorem alive_div (w : World) : Calls Try.prog 15 #[.int .i64 (-65536), .int .i64 131073] w fun e w' => e = .returned (.tuple #[.int .i64 (-32768), .int .i64 0]) ∧ Below w.heap.size w w' :=
  (div_any (-65536) 131073 w).mono fun _ _ ⟨he, hw⟩ => ⟨by rw [he, show divV (-65536) 131073 = -32768 by decide, show divE (-65536) 131073 = 0 by decide], hw⟩
theorem alive_add (w : World) (a : Option Addr) (h : Row w a 2 [2147483647, 1]) : Calls Try.prog 7 #[.slice a 2 2] w fun e w' => e = .returned (.tuple #[.int .i64 0, .int .i64 6]) ∧ Below w.heap.size w w' :=
  (add_any a 2 2 _ w h).mono fun _ _ ⟨he, hw⟩ => ⟨by rw [he, show addV [2147483647, 1] = 0 by decide, show addE [2147483647, 1] = 6 by decide], hw⟩
theorem alive_floor (w : World) : Calls Try.prog 11 #[.int .i64 (-1)] w fun e w' => e = .returned (.int .i64 (-1)) ∧ w = w' :=
  (floor_any (-1) w).mono fun _ _ ⟨he, hw⟩ => ⟨by rw [he]; rfl, hw⟩
theorem alive_right (w : World) (a : Option Addr) (h : Row w a 2 [5, -5]) : Calls Try.prog 9 #[.slice a 2 2] w fun e w' => e = .returned (.bool true) ∧ w = w' :=
  (right_any a 2 2 _ w h).mono fun _ _ ⟨he, hw⟩ => ⟨by rw [he, show rightB [5, -5] = true by decide], hw⟩
theorem alive_wrong (w : World) (a : Option Addr) (h : Row w a 1 [2147483648]) : Calls Try.prog 9 #[.slice a 1 1] w fun e w' => e = .returned (.bool false) ∧ w = w' :=
  (right_any a 1 1 _ w h).mono fun _ _ ⟨he, hw⟩ => ⟨by rw [he, show rightB [2147483648] = false by decide], hw⟩

set_option maxHeartbeats 1000000 in
theorem alive_any (w : World) :
    Calls Try.prog 6 #[] w fun e w' => e = .returned (.bool true) ∧ Below w.heap.size w w' := by
  go_enter Try.func6, Try.ntmps6
  go_wp2_with fail
  refine (alive_mul _).mono ?_
  rintro e w1 ⟨rfl, b1⟩
  go_wp2_with fail
  refine (alive_div _).mono ?_
  rintro e w2 ⟨rfl, b2⟩
  go_wp2_with fail
  refine (alive_add _ _ (row2 _ _ _ _)).mono ?_
  rintro e w3 ⟨rfl, b3⟩
  go_wp2_with fail
  refine (alive_floor _).mono ?_
  rintro e w4 ⟨rfl, rfl⟩
  go_wp2_with fail
  refine (alive_right _ _ (row2 _ _ _ _)).mono ?_
  rintro e w4 ⟨rfl, rfl⟩
  go_wp2_with fail
  refine (alive_wrong _ _ (row1At _ _ _ _ (by simp))).mono ?_
  rintro e w4 ⟨rfl, rfl⟩
  go_wp2
  go_ret
  have z1 := b1.size
  have z2 := b2.size
  have z3 := b3.size
  simp at z3
  refine ⟨rfl, ?_⟩
  have c2 : Below w.heap.size w w2 := b1.trans (b2.mono z1)
  have c3 : Below w.heap.size w w3 := (c2.alloc (by omega) _).trans (b3.mono (by simp; omega))
  exact (c3.alloc (by omega) _).alloc (by simp; omega) _

end Go.Proofs.Ytochehhdjgccoaa
