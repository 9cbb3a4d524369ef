/-
  '==' of two matrices that are the same; slices of two and of four matrices; the laws' own live question of layer 3 answers true; arguments that are matrices, opened to their numbers.
-/
import Derived.Test.YthdgldoailjhhaaAffL
namespace Go.Proofs.Ythdgldoailjhhaa
open Go.ChangeShapes Go.WideShapes Go.ChangeAt Go.RowKit Go.Deep

set_option maxHeartbeats 1000000 in
theorem eqMat (x0 x1 x2 x3 x4 x5 x6 x7 x8 x9 x10 x11 : Int) (w : World) : (Op.equalIn 10000 25 (.agg #[.int .i64 x0, .int .i64 x1, .int .i64 x2, .int .i64 x3, .int .i64 x4, .int .i64 x5, .int .i64 x6, .int .i64 x7, .int .i64 x8, .int .i64 x9, .int .i64 x10, .int .i64 x11]) (.agg #[.int .i64 x0, .int .i64 x1, .int .i64 x2, .int .i64 x3, .int .i64 x4, .int .i64 x5, .int .i64 x6, .int .i64 x7, .int .i64 x8, .int .i64 x9, .int .i64 x10, .int .i64 x11])).run Try.prog w = .ok true w := by
  have u3 := Try.underlying23
  have a3 := Try.isAgg23
  have z3 := Try.sizeOf23
  rw [show (10000 : Nat) = 9999 + 1 from rfl, Op.equalIn]
  simp only [Sem.run_bind, run_underlying Try.underlying25, Result.andThen_ok]
  simp only [Std.Legacy.Range.forIn_eq_forIn_range', Std.Legacy.Range.size, Nat.sub_zero, Nat.add_sub_cancel, Nat.div_one, List.range'_succ, List.range'_zero, List.forIn_cons, List.forIn_nil]
  go_simp

theorem mrow2 {w : World} {g : Nat} {t : TypeId} {A B : Nat → Int} (h : Blk w g t #[.int .i64 (A 0), .int .i64 (A 1), .int .i64 (A 2), .int .i64 (A 3), .int .i64 (A 4), .int .i64 (A 5), .int .i64 (A 6), .int .i64 (A 7), .int .i64 (A 8), .int .i64 (A 9), .int .i64 (A 10), .int .i64 (A 11), .int .i64 (B 0), .int .i64 (B 1), .int .i64 (B 2), .int .i64 (B 3), .int .i64 (B 4), .int .i64 (B 5), .int .i64 (B 6), .int .i64 (B 7), .int .i64 (B 8), .int .i64 (B 9), .int .i64 (B 10), .int .i64 (B 11)]) : MRow w (some ⟨g, 0, none⟩) 2 [A, B] := by
  refine ⟨rfl, by omega, Or.inr ⟨_, _, rfl, fun i hi j hj => ?_⟩⟩
  obtain rfl | rfl : i = 0 ∨ i = 1 := by omega
  · rcases lt12 hj with rfl | rfl | rfl | rfl | rfl | rfl | rfl | rfl | rfl | rfl | rfl | rfl
    · exact h.cell 0
    · exact h.cell 1
    · exact h.cell 2
    · exact h.cell 3
    · exact h.cell 4
    · exact h.cell 5
    · exact h.cell 6
    · exact h.cell 7
    · exact h.cell 8
    · exact h.cell 9
    · exact h.cell 10
    · exact h.cell 11
  · rcases lt12 hj with rfl | rfl | rfl | rfl | rfl | rfl | rfl | rfl | rfl | rfl | rfl | rfl
    · exact h.cell 12
    · exact h.cell 13
    · exact h.cell 14
    · exact h.cell 15
    · exact h.cell 16
    · exact h.cell 17
    · exact h.cell 18
    · exact h.cell 19
    · exact h.cell 20
    · exact h.cell 21
    · exact h.cell 22
    · exact h.cell 23
theorem mrow4 {w : World} {g : Nat} {t : TypeId} {A B C D : Nat → Int} (h : Blk w g t #[.int .i64 (A 0), .int .i64 (A 1), .int .i64 (A 2), .int .i64 (A 3), .int .i64 (A 4), .int .i64 (A 5), .int .i64 (A 6), .int .i64 (A 7), .int .i64 (A 8), .int .i64 (A 9), .int .i64 (A 10), .int .i64 (A 11), .int .i64 (B 0), .int .i64 (B 1), .int .i64 (B 2), .int .i64 (B 3), .int .i64 (B 4), .int .i64 (B 5), .int .i64 (B 6), .int .i64 (B 7), .int .i64 (B 8), .int .i64 (B 9), .int .i64 (B 10), .int .i64 (B 11), .int .i64 (C 0), .int .i64 (C 1), .int .i64 (C 2), .int .i64 (C 3), .int .i64 (C 4), .int .i64 (C 5), .int .i64 (C 6), .int .i64 (C 7), .int .i64 (C 8), .int .i64 (C 9), .int .i64 (C 10), .int .i64 (C 11), .int .i64 (D 0), .int .i64 (D 1), .int .i64 (D 2), .int .i64 (D 3), .int .i64 (D 4), .int .i64 (D 5), .int .i64 (D 6), .int .i64 (D 7), .int .i64 (D 8), .int .i64 (D 9), .int .i64 (D 10), .int .i64 (D 11)]) : MRow w (some ⟨g, 0, none⟩) 4 [A, B, C, D] := by
  refine ⟨rfl, by omega, Or.inr ⟨_, _, rfl, fun i hi j hj => ?_⟩⟩
  obtain rfl | rfl | rfl | rfl : i = 0 ∨ i = 1 ∨ i = 2 ∨ i = 3 := by omega
  · rcases lt12 hj with rfl | rfl | rfl | rfl | rfl | rfl | rfl | rfl | rfl | rfl | rfl | rfl
    · exact h.cell 0
    · exact h.cell 1
    · exact h.cell 2
    · exact h.cell 3
    · exact h.cell 4
    · exact h.cell 5
    · exact h.cell 6
    · exact h.cell 7
    · exact h.cell 8
    · exact h.cell 9
    · exact h.cell 10
    · exact h.cell 11
  · rcases lt12 hj with rfl | rfl | rfl | rfl | rfl | rfl | rfl | rfl | rfl | rfl | rfl | rfl
    · exact h.cell 12
    · exact h.cell 13
    · exact h.cell 14
    · exact h.cell 15
    · exact h.cell 16
    · exact h.cell 17
    · exact h.cell 18
    · exact h.cell 19
    · exact h.cell 20
    · exact h.cell 21
    · exact h.cell 22
    · exact h.cell 23
  · rcases lt12 hj with rfl | rfl | rfl | rfl | rfl | rfl | rfl | rfl | rfl | rfl | rfl | rfl
    · exact h.cell 24
    · exact h.cell 25
    · exact h.cell 26
    · exact h.cell 27
    · exact h.cell 28
    · exact h.cell 29
    · exact h.cell 30
    · exact h.cell 31
    · exact h.cell 32
    · exact h.cell 33
    · exact h.cell 34
    · exact h.cell 35
  · rcases lt12 hj with rfl | rfl | rfl | rfl | rfl | rfl | rfl | rfl | rfl | rfl | rfl | rfl
    · exact h.cell 36
    · exact h.cell 37
    · exact h.cell 38
    · exact h.cell 39
    · exact h.cell 40
    · exact h.cell 41
    · exact h.cell 42
    · exact h.cell 43
    · exact h.cell 44
    · exact h.cell 45
    · exact h.cell 46
    · exact h.cell 47

def aMove : Nat → Int := fun k => [65536, 0, 0, 65536, 0, 65536, 0, 0, 0, 0, 65536, 5].getD k 0
def aTurn : Nat → Int := fun k => [0, -65536, 0, 0, 65536, 0, 0, 0, 0, 0, 65536, 0].getD k 0
def aProd : Nat → Int := fun k => [0, -65536, 0, 65536, 65536, 0, 0, 0, 0, 0, 65536, 5].getD k 0
theorem aMul : (mulMs [aMove, aTurn]).2 = 0 ∧ ∀ k, k < 12 → (mulMs [aMove, aTurn]).1 k = aProd k := by decide
theorem aApp : appE aProd (v3 131072 196608 7) = 0 ∧ appV aProd (v3 131072 196608 7) 0 = -131072 ∧ appV aProd (v3 131072 196608 7) 1 = 131072 ∧ appV aProd (v3 131072 196608 7) 2 = 12 := by decide
theorem aalive_apply (w : World) : Calls Try.prog 20 #[.agg #[.int .i64 0, .int .i64 (-65536), .int .i64 0, .int .i64 65536, .int .i64 65536, .int .i64 0, .int .i64 0, .int .i64 0, .int .i64 0, .int .i64 0, .int .i64 65536, .int .i64 5], .agg #[.int .i64 131072, .int .i64 196608, .int .i64 7]] w fun e w' => e = .returned (.tuple #[.agg #[.int .i64 (-131072), .int .i64 131072, .int .i64 12], .int .i64 0]) ∧ Below w.heap.size w w' :=
  (apply_any aProd (v3 131072 196608 7) w).mono fun _ _ ⟨he, hw⟩ => ⟨by rw [he, aApp.1, aApp.2.1, aApp.2.2.1, aApp.2.2.2], hw⟩
theorem aalive_right {w : World} {g cap : Nat} {t : TypeId} (h : Blk w g t #[.int .i64 0, .int .i64 (-65536), .int .i64 0, .int .i64 65536, .int .i64 65536, .int .i64 0, .int .i64 0, .int .i64 0, .int .i64 0, .int .i64 0, .int .i64 65536, .int .i64 5]) : Calls Try.prog 29 #[.slice (some ⟨g, 0, none⟩) 1 cap] w fun e w' => e = .returned (.bool true) ∧ Below w.heap.size w w' :=
  mright1 (M := aProd) (by decide) h

theorem aidx5 (w : World) : (Instr.index 25 (.agg #[.int .i64 65536, .int .i64 0, .int .i64 0, .int .i64 0, .int .i64 0, .int .i64 65536, .int .i64 0, .int .i64 0, .int .i64 0, .int .i64 0, .int .i64 65536, .int .i64 0]) (.int .i64 5)).run Try.prog w = .ok (.int .i64 65536) w := by kernel_rfl

end Go.Proofs.Ythdgldoailjhhaa
