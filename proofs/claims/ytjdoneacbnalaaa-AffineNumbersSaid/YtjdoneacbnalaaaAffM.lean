/-
  '==' of two matrices that are the same; slices of two and of four matrices; the laws' own live question of layer 3 answers true; arguments that are matrices, opened to their numbers.
-/
import Derived.Test.YtjdoneacbnalaaaAffL
namespace Go.Proofs.Ytjdoneacbnalaaa
open Go.ChangeShapes Go.WideShapes Go.ChangeAt Go.RowKit Go.Deep

set_option maxHeartbeats 1000000 in
theorem eqMat (x0 x1 x2 x3 x4 x5 x6 x7 x8 x9 x10 x11 : Int) (w : World) : (Op.equalIn 10000 25 (.agg #[.int .i64 x0, .int .i64 x1, .int .i64 x2, .int .i64 x3, .int .i64 x4, .int .i64 x5, .int .i64 x6, .int .i64 x7, .int .i64 x8, .int .i64 x9, .int .i64 x10, .int .i64 x11]) (.agg #[.int .i64 x0, .int .i64 x1, .int .i64 x2, .int .i64 x3, .int .i64 x4, .int .i64 x5, .int .i64 x6, .int .i64 x7, .int .i64 x8, .int .i64 x9, .int .i64 x10, .int .i64 x11])).run Try.prog w = .ok true w := by
  have u3 := Try.underlying23
  have a3 := Try.isAgg23
  have z3 := Try.sizeOf23
  rw [show (10000 : Nat) = 9999 + 1 from rfl, Op.equalIn]
  simp only [Sem.run_bind, run_underlying Try.underlying25, Result.andThen_ok]
  simp only [Std.Legacy.Range.forIn_eq_forIn_range', Std.Legacy.Range.size, Nat.sub_zero, Nat.add_sub_cancel, Nat.div_one, List.range'_succ, List.range'_zero, List.forIn_cons, List.forIn_nil]
  go_simp

theorem mrow2 {w : World} {g : Nat} {t : TypeId} {A B : Nat → Int} (h : Blk w g t #[.int .i64 (A 0), .int .i64 (A 1), .int .i64 (A 2), .int .i64 (A 3), .int .i64 (A 4), .int .i64 (A 5), .int .i64 (A 6), .int .i64 (A 7), .int .i64 (A 8), .int .i64 (A 9), .int .i64 (A 10), .int .i64 (A 11), .int .i64 (B 0), .int .i64 (B 1), .int .i64 (B 2), .int .i64 (B 3), .int .i64 (B 4), .int .i64 (B 5), .int .i64 (B 6), .int .i64 (B 7), .int .i64 (B 8), .int .i64 (B 9), .int .i64 (B 10), .int .i64 (B 11)]) : MRow w (some ⟨g, 0, none⟩) 2 [A, B] := by
  refine ⟨rfl, by omega, Or.inr ⟨_, _, rfl, fun i hi j hj => ?_⟩⟩
  obtain rfl | rfl : i = 0 ∨ i = 1 := by omega
  · rcases lt12 hj with rfl | rfl | rfl | rfl | rfl | rfl | rfl | rfl | rfl | rfl | rfl | rfl
    · exact h.cell 0
    · exact h.cell 1
    · exact h.cell 2
    · exact h.cell 3
    · exact h.cell 4
    · exact h.cell 5
    · exact h.cell 6
    · exact h.cell 7
    · exact h.cell 8
    · exact h.cell 9
    · exact h.cell 10
    · exact h.cell 11
  · rcases lt12 hj with rfl | rfl | rfl | rfl | rfl | rfl | rfl | rfl | rfl | rfl | rfl | rfl
    · exact h.cell 12
    · exact h.cell 13
    · exact h.cell 14
    · exact h.cell 15
    · exact h.cell 16
    · exact h.cell 17
    · exact h.cell 18
    · exact h.cell 19
    · exact h.cell 20
    · exact h.cell 21
    · exact h.cell 22
    · exact h.cell 23
theorem mrow4 {w : World} {g : Nat} {t : TypeId} {A B C D : Nat → Int} (h : Blk w g t #[.int .i64 (A 0), .int .i64 (A 1), .int .i64 (A 2), .int .i64 (A 3), .int .i64 (A 4), .int .i64 (A 5), .int .i64 (A 6), .int .i64 (A 7), .int .i64 (A 8), .int .i64 (A 9), .int .i64 (A 10), .int .i64 (A 11), .int .i64 (B 0), .int .i64 (B 1), .int .i64 (B 2), .int .i64 (B 3), .int .i64 (B 4), .int .i64 (B 5), .int .i64 (B 6), .int .i64 (B 7), .int .i64 (B 8), .int .i64 (B 9), .int .i64 (B 10), .int .i64 (B 11), .int .i64 (C 0), .int .i64 (C 1), .int .i64 (C 2), .int .i64 (C 3), .int .i64 (C 4), .int .i64 (C 5), .int .i64 (C 6), .int .i64 (C 7), .int .i64 (C 8), .int .i64 (C 9), .int .i64 (C 10), .int .i64 (C 11), .int .i64 (D 0), .int .i64 (D 1), .int .i64 (D 2), .int .i64 (D 3), .int .i64 (D 4), .int .i64 (D 5), .int .i64 (D 6), .int .i64 (D 7), .int .i64 (D 8), .int .i64 (D 9), .int .i64 (D 10), .int .i64 (D 11)]) : MRow w (some ⟨g, 0, none⟩) 4 [A, B, C, D] := by
  refine ⟨rfl, by omega, Or.inr ⟨_, _, rfl, fun i hi j hj => ?_⟩⟩
  obtain rfl | rfl | rfl | rfl : i = 0 ∨ i = 1 ∨ i = 2 ∨ i = 3 := by omega
  · rcases lt12 hj with rfl | rfl | rfl | rfl | rfl | rfl | rfl | rfl | rfl | rfl | rfl | rfl
    · exact h.cell 0
    · exact h.cell 1
    · exact h.cell 2
    · exact h.cell 3
    · exact h.cell 4
    · exact h.cell 5
    · exact h.cell 6
    · exact h.cell 7
    · exact h.cell 8
    · exact h.cell 9
    · exact h.cell 10
    · exact h.cell 11
  · rcases lt12 hj with rfl | rfl | rfl | rfl | rfl | rfl | rfl | rfl | rfl | rfl | rfl | rfl
    · exact h.cell 12
    · exact h.cell 13
    · exact h.cell 14
    · exact h.cell 15
    · exact h.cell 16
    · exact h.cell 17
    · exact h.cell 18
    · exact h.cell 19
    · exact h.cell 20
    · exact h.cell 21
    · exact h.cell 22
    · exact h.cell 23
  · rcases lt12 hj with rfl | rfl | rfl | rfl | rfl | rfl | rfl | rfl | rfl | rfl | rfl | rfl
    · exact h.cell 24
    · exact h.cell 25
    · exact h.cell 26
    · exact h.cell 27
    · exact h.cell 28
    · exact h.cell 29
    · exact h.cell 30
    · exact h.cell 31
    · exact h.cell 32
    · exact h.cell 33
    · exact h.cell 34
    · exact h.cell 35
  · rcases lt12 hj with rfl | rfl | rfl | rfl | rfl | rfl | rfl | rfl | rfl | rfl | rfl | rfl
    · exact h.cell 36
    · exact h.cell 37
    · exact h.cell 38
    · exact h.cell 39
    · exact h.cell 40
    · exact h.cell 41
    · exact h.cell 42
    · exact h.cell 43
    · exact h.cell 44
    · exact h.cell 45
    · exact h.cell 46
    · exact h.cell 47

def aMove : Nat → Int := fun k => [65536, 0, 0, 65536, 0, 65536, 0, 0, 0, 0, 65536, 5].getD k 0
def aTurn : Nat → Int := fun k => [0, -65536, 0, 0, 65536, 0, 0, 0, 0, 0, 65536, 0].getD k 0
def aProd : Nat → Int := fun k => [0, -65536, 0, 65536, 65536, 0, 0, 0, 0, 0, 65536, 5].getD k 0
theorem aalive_turn (w : World) : Calls Try.prog 13 #[.int .i64 2] w fun e w' => e = .returned (.agg #[.int .i64 0, .int .i64 (-65536), .int .i64 0, .int .i64 0, .int .i64 65536, .int .i64 0, .int .i64 0, .int .i64 0, .int .i64 0, .int .i64 0, .int .i64 65536, .int .i64 0]) ∧ Below w.heap.size w w' :=
  (turn_any 2 w).mono fun _ _ ⟨he, hw⟩ => ⟨he, hw⟩
theorem aMul : (mulMs [aMove, aTurn]).2 = 0 ∧ ∀ k, k < 12 → (mulMs [aMove, aTurn]).1 k = aProd k := by decide
theorem aalive_mul (w : World) (a : Option Addr) (h : MRow w a 2 [aMove, aTurn]) : Calls Try.prog 8 #[.slice a 2 2] w fun e w' => e = .returned (.tuple #[.agg #[.int .i64 0, .int .i64 (-65536), .int .i64 0, .int .i64 65536, .int .i64 65536, .int .i64 0, .int .i64 0, .int .i64 0, .int .i64 0, .int .i64 0, .int .i64 65536, .int .i64 5], .int .i64 0]) ∧ Below w.heap.size w w' :=
  (mmul_any a 2 2 _ w h (by omega) (by omega)).mono fun _ _ ⟨he, hw⟩ => ⟨by rw [he, aMul.1, aMul.2 0 (by omega), aMul.2 1 (by omega), aMul.2 2 (by omega), aMul.2 3 (by omega), aMul.2 4 (by omega), aMul.2 5 (by omega), aMul.2 6 (by omega), aMul.2 7 (by omega), aMul.2 8 (by omega), aMul.2 9 (by omega), aMul.2 10 (by omega), aMul.2 11 (by omega)]; rfl, hw⟩
theorem aApp : appE aProd (v3 131072 196608 7) = 0 ∧ appV aProd (v3 131072 196608 7) 0 = -131072 ∧ appV aProd (v3 131072 196608 7) 1 = 131072 ∧ appV aProd (v3 131072 196608 7) 2 = 12 := by decide
theorem aalive_apply (w : World) : Calls Try.prog 10 #[.agg #[.int .i64 0, .int .i64 (-65536), .int .i64 0, .int .i64 65536, .int .i64 65536, .int .i64 0, .int .i64 0, .int .i64 0, .int .i64 0, .int .i64 0, .int .i64 65536, .int .i64 5], .agg #[.int .i64 131072, .int .i64 196608, .int .i64 7]] w fun e w' => e = .returned (.tuple #[.agg #[.int .i64 (-131072), .int .i64 131072, .int .i64 12], .int .i64 0]) ∧ Below w.heap.size w w' :=
  (apply_any aProd (v3 131072 196608 7) w).mono fun _ _ ⟨he, hw⟩ => ⟨by rw [he, aApp.1, aApp.2.1, aApp.2.2.1, aApp.2.2.2], hw⟩
theorem aalive_right {w : World} {g cap : Nat} {t : TypeId} (h : Blk w g t #[.int .i64 0, .int .i64 (-65536), .int .i64 0, .int .i64 65536, .int .i64 65536, .int .i64 0, .int .i64 0, .int .i64 0, .int .i64 0, .int .i64 0, .int .i64 65536, .int .i64 5]) : Calls Try.prog 12 #[.slice (some ⟨g, 0, none⟩) 1 cap] w fun e w' => e = .returned (.bool true) ∧ Below w.heap.size w w' :=
  mright1 (M := aProd) (by decide) h

theorem aidx5 (w : World) : (Instr.index 25 (.agg #[.int .i64 65536, .int .i64 0, .int .i64 0, .int .i64 0, .int .i64 0, .int .i64 65536, .int .i64 0, .int .i64 0, .int .i64 0, .int .i64 0, .int .i64 65536, .int .i64 0]) (.int .i64 5)).run Try.prog w = .ok (.int .i64 65536) w := by kernel_rfl

set_option maxHeartbeats 2000000 in
theorem aalive_any (w : World) :
    Calls Try.prog 6 #[] w fun e w' => e = .returned (.bool true) ∧ Below w.heap.size w w' := by
  have heq := eqVec
  have hi := aidx5
  go_enter Try.func6, Try.ntmps6
  go_wp2_with fail
  refine (move_xyz 65536 0 5 _).mono ?_
  rintro e w1 ⟨rfl, b1⟩
  have B1 := Lib.hid b1
  clear b1
  go_wp2_with fail
  refine (aalive_turn _).mono ?_
  rintro e w2 ⟨rfl, b2⟩
  replace B1 := Lib.hid (bthen B1.out b2)
  clear b2
  go_wp2_with fail
  refine (aalive_mul _ _ (mrow2 (A := aMove) (B := aTurn) (Blk.new _ _ _))).mono ?_
  rintro e w3 ⟨rfl, b3⟩
  replace B1 := Lib.hid (bthen (balloc B1.out _) b3)
  clear b3
  go_wp2_with fail
  refine (aalive_apply _).mono ?_
  rintro e w4 ⟨rfl, b4⟩
  have KM := Lib.hid ((Blk.new w3 25 _).keep b4)
  replace B1 := Lib.hid (bthen (balloc B1.out _) b4)
  clear b4
  obtain ⟨c0, c1, c2, c3, c4, c5, c6, c7, c8, c9, c10, c11, _, _, _, _, _, _, _, _, _, _, _, _⟩ := blk12 KM.out
  have z4 := KM.out.lt
  go_wp2_with fail
  refine (aalive_right (blkAt (Blk.new _ _ _) (by simp))).mono ?_
  rintro e w5 ⟨rfl, b5⟩
  replace B1 := Lib.hid (bthen (balloc (balloc B1.out _) _) b5)
  clear b5
  go_wp2_with fail
  refine (same_any _).mono ?_
  rintro e w6 ⟨rfl, b6⟩
  replace B1 := Lib.hid (bthen B1.out b6)
  clear b6
  go_wp2
  go_ret
  exact ⟨rfl, B1.out⟩

end Go.Proofs.Ytjdoneacbnalaaa
