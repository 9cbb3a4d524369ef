/-
  '==' of vectors, matrices, boxes and parts.
-/
import Derived.Test.YtpobnmcjmclgbaaPrtC
namespace Go.Proofs.Ytpobnmcjmclgbaa
open Go.RowKit

set_option maxHeartbeats 2000000 in
theorem eqVecB (n : Nat) (x0 x1 x2 y0 y1 y2 : Int) (w : World) : (Op.equalIn (n + 1 + 1) 35 (.agg #[.int .i64 x0, .int .i64 x1, .int .i64 x2]) (.agg #[.int .i64 y0, .int .i64 y1, .int .i64 y2])).run Try.prog w = .ok ((x0 == y0) && (x1 == y1) && (x2 == y2)) w := by
  have u3 := Try.underlying31
  have a3 := Try.isAgg31
  have z3 := Try.sizeOf31
  rw [Op.equalIn]
  simp only [Sem.run_bind, run_underlying Try.underlying35, Result.andThen_ok]
  simp only [Std.Legacy.Range.forIn_eq_forIn_range', Std.Legacy.Range.size, Nat.sub_zero, Nat.add_sub_cancel, Nat.div_one, List.range'_succ, List.range'_zero, List.forIn_cons, List.forIn_nil]
  go_simp
  by_cases h0 : x0 = y0
  · subst h0
    by_cases h1 : x1 = y1
    · subst h1
      by_cases h2 : x2 = y2
      · subst h2
        simp
      · simp [h2]
    · simp [h1]
  · simp [h0]
set_option maxHeartbeats 2000000 in
theorem eqMatB (n : Nat) (x0 x1 x2 x3 x4 x5 x6 x7 x8 x9 x10 x11 y0 y1 y2 y3 y4 y5 y6 y7 y8 y9 y10 y11 : Int) (w : World) : (Op.equalIn (n + 1 + 1) 33 (.agg #[.int .i64 x0, .int .i64 x1, .int .i64 x2, .int .i64 x3, .int .i64 x4, .int .i64 x5, .int .i64 x6, .int .i64 x7, .int .i64 x8, .int .i64 x9, .int .i64 x10, .int .i64 x11]) (.agg #[.int .i64 y0, .int .i64 y1, .int .i64 y2, .int .i64 y3, .int .i64 y4, .int .i64 y5, .int .i64 y6, .int .i64 y7, .int .i64 y8, .int .i64 y9, .int .i64 y10, .int .i64 y11])).run Try.prog w = .ok ((x0 == y0) && (x1 == y1) && (x2 == y2) && (x3 == y3) && (x4 == y4) && (x5 == y5) && (x6 == y6) && (x7 == y7) && (x8 == y8) && (x9 == y9) && (x10 == y10) && (x11 == y11)) w := by
  have u3 := Try.underlying31
  have a3 := Try.isAgg31
  have z3 := Try.sizeOf31
  rw [Op.equalIn]
  simp only [Sem.run_bind, run_underlying Try.underlying33, Result.andThen_ok]
  simp only [Std.Legacy.Range.forIn_eq_forIn_range', Std.Legacy.Range.size, Nat.sub_zero, Nat.add_sub_cancel, Nat.div_one, List.range'_succ, List.range'_zero, List.forIn_cons, List.forIn_nil]
  go_simp
  by_cases h0 : x0 = y0
  · subst h0
    by_cases h1 : x1 = y1
    · subst h1
      by_cases h2 : x2 = y2
      · subst h2
        by_cases h3 : x3 = y3
        · subst h3
          by_cases h4 : x4 = y4
          · subst h4
            by_cases h5 : x5 = y5
            · subst h5
              by_cases h6 : x6 = y6
              · subst h6
                by_cases h7 : x7 = y7
                · subst h7
                  by_cases h8 : x8 = y8
                  · subst h8
                    by_cases h9 : x9 = y9
                    · subst h9
                      by_cases h10 : x10 = y10
                      · subst h10
                        by_cases h11 : x11 = y11
                        · subst h11
                          simp
                        · simp [h11]
                      · simp [h10]
                    · simp [h9]
                  · simp [h8]
                · simp [h7]
              · simp [h6]
            · simp [h5]
          · simp [h4]
        · simp [h3]
      · simp [h2]
    · simp [h1]
  · simp [h0]
set_option maxHeartbeats 2000000 in
theorem eqBoxB (n : Nat) (x0 x1 x2 x3 x4 x5 y0 y1 y2 y3 y4 y5 : Int) (w : World) : (Op.equalIn (n + 1 + 1 + 1) 37 (.agg #[.int .i64 x0, .int .i64 x1, .int .i64 x2, .int .i64 x3, .int .i64 x4, .int .i64 x5]) (.agg #[.int .i64 y0, .int .i64 y1, .int .i64 y2, .int .i64 y3, .int .i64 y4, .int .i64 y5])).run Try.prog w = .ok (((x0 == y0) && (x1 == y1) && (x2 == y2)) && ((x3 == y3) && (x4 == y4) && (x5 == y5))) w := by
  have hv := eqVecB
  have a3 := Try.isAgg35
  have z3 := Try.sizeOf35
  rw [Op.equalIn]
  simp only [Sem.run_bind, run_underlying Try.underlying37, Result.andThen_ok]
  go_simp
  by_cases h0 : x0 = y0
  · subst h0
    by_cases h1 : x1 = y1
    · subst h1
      by_cases h2 : x2 = y2
      · subst h2
        by_cases h3 : x3 = y3
        · subst h3
          by_cases h4 : x4 = y4
          · subst h4
            by_cases h5 : x5 = y5
            · subst h5
              simp
            · simp [h5]
          · simp [h4]
        · simp [h3]
      · simp [h2]
    · simp [h1]
  · simp [h0]

set_option maxHeartbeats 4000000 in
set_option maxRecDepth 10000 in
theorem eqParts_of (h : Int) (M : Nat → Int) (m : Int) (B : Nat → Int) (p a : Int) (c : Bool) (l : Int) (h2 : Int) (N : Nat → Int) (m2 : Int) (B2 : Nat → Int) (p2 a2 : Int) (c2 : Bool) (l2 : Int) (eM eB : Bool) (w : World)
    (hM : ∀ n w, (Op.equalIn (n + 1 + 1) 33 (.agg #[.int .i64 (M 0), .int .i64 (M 1), .int .i64 (M 2), .int .i64 (M 3), .int .i64 (M 4), .int .i64 (M 5), .int .i64 (M 6), .int .i64 (M 7), .int .i64 (M 8), .int .i64 (M 9), .int .i64 (M 10), .int .i64 (M 11)]) (.agg #[.int .i64 (N 0), .int .i64 (N 1), .int .i64 (N 2), .int .i64 (N 3), .int .i64 (N 4), .int .i64 (N 5), .int .i64 (N 6), .int .i64 (N 7), .int .i64 (N 8), .int .i64 (N 9), .int .i64 (N 10), .int .i64 (N 11)])).run Try.prog w = .ok eM w) (hB : ∀ n w, (Op.equalIn (n + 1 + 1 + 1) 37 (.agg #[.int .i64 (B 0), .int .i64 (B 1), .int .i64 (B 2), .int .i64 (B 3), .int .i64 (B 4), .int .i64 (B 5)]) (.agg #[.int .i64 (B2 0), .int .i64 (B2 1), .int .i64 (B2 2), .int .i64 (B2 3), .int .i64 (B2 4), .int .i64 (B2 5)])).run Try.prog w = .ok eB w) :
    (Op.equalIn 10000 39 (.agg (PL h M m B p a c l).toArray) (.agg (PL h2 N m2 B2 p2 a2 c2 l2).toArray)).run Try.prog w = .ok ((h == h2) && eM && (m == m2) && eB && (p == p2) && (a == a2) && (c == c2) && (l == l2)) w := by
  have a1 := Try.isAgg33
  have z1 := Try.sizeOf33
  have a2' := Try.isAgg37
  have z2 := Try.sizeOf37
  have u3 := Try.underlying3
  have a3 := Try.isAgg3
  have z3 := Try.sizeOf3
  have u4 := Try.underlying23
  have a4 := Try.isAgg23
  have z4 := Try.sizeOf23
  have u5 := Try.underlying4
  have a5 := Try.isAgg4
  have z5 := Try.sizeOf4
  unfold PL
  rw [show (10000 : Nat) = 9996 + 1 + 1 + 1 + 1 from rfl, Op.equalIn]
  simp only [Sem.run_bind, run_underlying Try.underlying39, Result.andThen_ok]
  go_simp
  by_cases e0 : h = h2
  · cases eM
    · simp
    · by_cases e1 : m = m2
      · cases eB
        · simp
        · by_cases e2 : p = p2
          · by_cases e3 : a = a2
            · by_cases e4 : c = c2
              · by_cases e5 : l = l2
                · simp [e0, e1, e2, e3, e4, e5]
                · simp [e5]
              · simp [e4]
            · simp [e3]
          · simp [e2]
      · simp [e1]
  · simp [e0]

def eq12 (M N : Nat → Int) : Bool := (M 0 == N 0) && (M 1 == N 1) && (M 2 == N 2) && (M 3 == N 3) && (M 4 == N 4) && (M 5 == N 5) && (M 6 == N 6) && (M 7 == N 7) && (M 8 == N 8) && (M 9 == N 9) && (M 10 == N 10) && (M 11 == N 11)
def eq6 (B C : Nat → Int) : Bool := ((B 0 == C 0) && (B 1 == C 1) && (B 2 == C 2)) && ((B 3 == C 3) && (B 4 == C 4) && (B 5 == C 5))
def eqP (h : Int) (M : Nat → Int) (m : Int) (B : Nat → Int) (p a : Int) (c : Bool) (l : Int) (h2 : Int) (N : Nat → Int) (m2 : Int) (B2 : Nat → Int) (p2 a2 : Int) (c2 : Bool) (l2 : Int) : Bool := (h == h2) && eq12 M N && (m == m2) && eq6 B B2 && (p == p2) && (a == a2) && (c == c2) && (l == l2)
theorem eqParts (h : Int) (M : Nat → Int) (m : Int) (B : Nat → Int) (p a : Int) (c : Bool) (l : Int) (h2 : Int) (N : Nat → Int) (m2 : Int) (B2 : Nat → Int) (p2 a2 : Int) (c2 : Bool) (l2 : Int) (w : World) :
    (Op.equalIn 10000 39 (.agg (PL h M m B p a c l).toArray) (.agg (PL h2 N m2 B2 p2 a2 c2 l2).toArray)).run Try.prog w = .ok (eqP h M m B p a c l h2 N m2 B2 p2 a2 c2 l2) w :=
  eqParts_of h M m B p a c l h2 N m2 B2 p2 a2 c2 l2 (eq12 M N) (eq6 B B2) w (fun n w => eqMatB n _ _ _ _ _ _ _ _ _ _ _ _ _ _ _ _ _ _ _ _ _ _ _ _ w) (fun n w => eqBoxB n _ _ _ _ _ _ _ _ _ _ _ _ w)
theorem eq12_self (M : Nat → Int) : eq12 M M = true := by unfold eq12; simp
theorem eq6_self (B : Nat → Int) : eq6 B B = true := by unfold eq6; simp

end Go.Proofs.Ytpobnmcjmclgbaa
