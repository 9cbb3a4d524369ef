/-
  The laws' own live question of layer 2 answers true.
-/
import Derived.Test.YthdgldoailjhhaaVecG
namespace Go.Proofs.Ythdgldoailjhhaa
open Go.RowKit

theorem vrow3 {w : World} {g : Nat} {t : TypeId} {x0 x1 x2 y0 y1 y2 z0 z1 z2 : Int} (h : Blk w g t #[.int .i64 x0, .int .i64 x1, .int .i64 x2, .int .i64 y0, .int .i64 y1, .int .i64 y2, .int .i64 z0, .int .i64 z1, .int .i64 z2]) :
    VRow w (some ⟨g, 0, none⟩) 3 [(x0, x1, x2), (y0, y1, y2), (z0, z1, z2)] := by
  refine ⟨rfl, by omega, Or.inr ⟨_, _, rfl, fun i hi => ?_⟩⟩
  obtain rfl | rfl | rfl : i = 0 ∨ i = 1 ∨ i = 2 := by omega
  · exact ⟨h.cell 0, h.cell 1, h.cell 2⟩
  · exact ⟨h.cell 3, h.cell 4, h.cell 5⟩
  · exact ⟨h.cell 6, h.cell 7, h.cell 8⟩

/-- what '==' says of two vectors -/
theorem eqVec (a b c d e f : Int) (w : World) : (Op.equalIn 10000 27 (.agg #[.int .i64 a, .int .i64 b, .int .i64 c]) (.agg #[.int .i64 d, .int .i64 e, .int .i64 f])).run Try.prog w = .ok (a == d && b == e && c == f) w := by
  have u3 := Try.underlying23
  have a3 := Try.isAgg23
  have z3 := Try.sizeOf23
  rw [show (10000 : Nat) = 9999 + 1 from rfl, Op.equalIn]
  simp only [Sem.run_bind, run_underlying Try.underlying27, Result.andThen_ok]
  simp only [Std.Legacy.Range.forIn_eq_forIn_range', Std.Legacy.Range.size, Nat.sub_zero, Nat.add_sub_cancel, Nat.div_one, List.range'_succ, List.range'_zero, List.forIn_cons, List.forIn_nil]
  go_simp
  by_cases h1 : a = d <;> by_cases h2 : b = e <;> by_cases h3 : c = f <;> simp [h1, h2, h3]

def av : List V3 := [(65536, -131072, 196608), (65536, -131072, 196608), (5, 0, 0)]
theorem valive_dot (w : World) : Calls Try.prog 34 #[.agg #[.int .i64 65536, .int .i64 (-131072), .int .i64 196608], .agg #[.int .i64 65536, .int .i64 (-131072), .int .i64 196608]] w fun e w' => e = .returned (.tuple #[.int .i64 917504, .int .i64 0]) ∧ Below w.heap.size w w' :=
  (vdot_any _ _ _ _ _ _ w).mono fun _ _ ⟨he, hw⟩ => ⟨by rw [he, show dotV 65536 (-131072) 196608 65536 (-131072) 196608 = 917504 by decide, show dotE 65536 (-131072) 196608 65536 (-131072) 196608 = 0 by decide], hw⟩
def al : List V3 := [(65536, -131072, 196608), (131077, -262144, 393216)]
theorem valive_least (w : World) (a : Option Addr) (h : VRow w a 2 al) : Calls Try.prog 23 #[.slice a 2 2] w fun e w' => e = .returned (.agg #[.int .i64 65536, .int .i64 (-262144), .int .i64 196608]) ∧ Below w.heap.size w w' :=
  (least_any a 2 2 al w (by omega) (by omega) h).mono fun _ _ ⟨he, hw⟩ => ⟨by rw [he, show pk lessB al = (65536, -262144, 196608) by decide]; rfl, hw⟩

end Go.Proofs.Ythdgldoailjhhaa
