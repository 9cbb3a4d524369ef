/-
  What the reference's Add of layer 2 answers.
-/
import Derived.Test.YtiniflddgnbngaaVecH
namespace Go.Proofs.Ytiniflddgnbngaa
open Go.RowKit

/-- the sums so far, place by place -/
def sumsTo (vs : List V3) (k j : Nat) : Value := if j < k then .int .i64 (addV (colK j vs)) else .int .i64 0
theorem sums_step (vs : List V3) (k j : Nat) : (if j = k then Value.int .i64 (addV (colK k vs)) else sumsTo vs k j) = sumsTo vs (k + 1) j := by
  unfold sumsTo
  by_cases e : j = k
  · subst e; rw [if_pos rfl, if_pos (by omega)]
  · rw [if_neg e]
    by_cases e2 : j < k
    · rw [if_pos e2, if_pos (by omega)]
    · rw [if_neg e2, if_neg (by omega)]

end Go.Proofs.Ytiniflddgnbngaa
