/-
  What the reference's Edge of layer 2 answers.
-/
import Derived.Test.YtiniflddgnbngaaVecK
namespace Go.Proofs.Ytiniflddgnbngaa
open Go.RowKit

def btOf (most : Bool) : Int → Int → Bool := if most then moreB else lessB
/-- the number at a place behind one more vector: the first one is taken as it is -/
def nwK (most : Bool) (i : Nat) (p x : Int) : Int := if i = 0 then x else bet (btOf most) p x
def edgeTo (most : Bool) (i : Nat) (p v : V3) (q j : Nat) : Value := if j < q then .int .i64 (nwK most i (compK j p) (compK j v)) else .int .i64 (compK j p)
theorem edge_step (most : Bool) (i : Nat) (p v : V3) (q j : Nat) : (if j = q then Value.int .i64 (nwK most i (compK q p) (compK q v)) else edgeTo most i p v q j) = edgeTo most i p v (q + 1) j := by
  unfold edgeTo
  by_cases e : j = q
  · subst e; rw [if_pos rfl, if_pos (by omega)]
  · rw [if_neg e]
    by_cases e2 : j < q
    · rw [if_pos e2, if_pos (by omega)]
    · rw [if_neg e2, if_neg (by omega)]
/-- where nothing is laid -/
theorem edge_same (most : Bool) (i : Nat) (p v : V3) (q j : Nat) (h : nwK most i (compK q p) (compK q v) = compK q p) : edgeTo most i p v q j = edgeTo most i p v (q + 1) j := by
  unfold edgeTo
  by_cases e : j = q
  · subst e; rw [if_neg (by omega), if_pos (by omega), h]
  · by_cases e2 : j < q
    · rw [if_pos e2, if_pos (by omega)]
    · rw [if_neg e2, if_neg (by omega)]

theorem pk_next {most : Bool} {vs : List V3} {i : Nat} {v : V3} (h : vs[i]? = some v) (j : Nat) (hj : j < 3) : compK j (pk (btOf most) (vs.take (i + 1))) = nwK most i (compK j (pk (btOf most) (vs.take i))) (compK j v) := by
  unfold nwK
  by_cases e : i = 0
  · subst e
    rw [if_pos rfl, pk_one h]
  · obtain ⟨k, rfl⟩ : ∃ k, i = k + 1 := ⟨i - 1, by omega⟩
    rw [if_neg e, pk_succ h]
    obtain rfl | rfl | rfl : j = 0 ∨ j = 1 ∨ j = 2 := by omega
    · rfl
    · rfl
    · rfl

def EV (p : V3) (j : Nat) : Value := .int .i64 (compK j p)
theorem nw_first (most : Bool) (p x : Int) : nwK most 0 p x = x := rfl
theorem nw_more {i : Nat} {p x : Int} (hi : i ≠ 0) (h : p < x) : nwK true i p x = x := by unfold nwK; rw [if_neg hi]; exact bet_yes (by simp [btOf, moreB]; exact h)
theorem nw_nomore {i : Nat} {p x : Int} (hi : i ≠ 0) (h : x ≤ p) : nwK true i p x = p := by unfold nwK; rw [if_neg hi]; exact bet_no (by simp [btOf, moreB]; exact h)
theorem nw_less {i : Nat} {p x : Int} (hi : i ≠ 0) (h : x < p) : nwK false i p x = x := by unfold nwK; rw [if_neg hi]; exact bet_yes (by simp [btOf, lessB]; exact h)
theorem nw_noless {i : Nat} {p x : Int} (hi : i ≠ 0) (h : p ≤ x) : nwK false i p x = p := by unfold nwK; rw [if_neg hi]; exact bet_no (by simp [btOf, lessB]; exact h)

end Go.Proofs.Ytiniflddgnbngaa
