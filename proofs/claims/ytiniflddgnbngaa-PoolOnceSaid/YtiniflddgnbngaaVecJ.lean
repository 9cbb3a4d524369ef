/-
  What the reference's Sub, Scale and Dot of layer 2 answer.
-/
import Derived.Test.YtiniflddgnbngaaVecI
import Derived.Deep.QuietTactic
import Derived.BigQuiet
namespace Go.Proofs.Ytiniflddgnbngaa
open Go.RowKit

theorem Blk.drewN {w : World} {g : Nat} {t : TypeId} {cs : Array Value} (h : Blk w g t cs) (n : Nat) : Blk (w.drewN n) g t cs := h
theorem rowIs_drewN {w : World} {b : Nat} {t : TypeId} {m : Nat} {f : Nat → Value} (h : w.rowIs b t m f) (n : Nat) : (w.drewN n).rowIs b t m f := h
theorem Blk.atK {w : World} {g : Nat} {t : TypeId} {x y z : Int} (h : Blk w g t #[.int .i64 x, .int .i64 y, .int .i64 z]) {k : Nat} (hk : k < 3) : w.cell? ⟨g, k, none⟩ = some (.int .i64 (compK k (x, y, z))) := by
  obtain rfl | rfl | rfl : k = 0 ∨ k = 1 ∨ k = 2 := by omega
  · exact h.cell 0
  · exact h.cell 1
  · exact h.cell 2

/-- what was laid so far, place by place -/
def laidTo (f : Nat → Int) (k j : Nat) : Value := if j < k then .int .i64 (f j) else .int .i64 0
theorem laid_step (f : Nat → Int) (k j : Nat) : (if j = k then Value.int .i64 (f k) else laidTo f k j) = laidTo f (k + 1) j := by
  unfold laidTo
  by_cases e : j = k
  · subst e; rw [if_pos rfl, if_pos (by omega)]
  · rw [if_neg e]
    by_cases e2 : j < k
    · rw [if_pos e2, if_pos (by omega)]
    · rw [if_neg e2, if_neg (by omega)]
theorem laid_start (w : World) (t : TypeId) (f : Nat → Int) : (w.alloc (.cells #[.int .i64 0, .int .i64 0, .int .i64 0] t)).rowIs w.heap.size t 3 (laidTo f 0) := by
  refine (World.rowIs_alloc w _ t (laidTo f 0) (fun i hi => ?_))
  obtain rfl | rfl | rfl : i = 0 ∨ i = 1 ∨ i = 2 := by simp at hi; omega
  · rfl
  · rfl
  · rfl
theorem err_step {e : Nat → Int} {k : Nat} (h : ∀ j, j < k → e j = 0) (he : e k = 0) : ∀ j, j < k + 1 → e j = 0 := fun i hi => by
  by_cases c : i = k
  · rw [c]; exact he
  · exact h i (by omega)

theorem bok_step {e : Nat → Bool} {k : Nat} (h : ∀ j, j < k → e j = true) (he : e k = true) : ∀ j, j < k + 1 → e j = true := fun i hi => by
  by_cases c : i = k
  · rw [c]; exact he
  · exact h i (by omega)

theorem fit_yes {x : Int} (h : okB x = true) : fitV x = x ∧ fitE x = 0 := by unfold fitV fitE; rw [if_pos h, if_pos h]; exact ⟨rfl, rfl⟩
theorem fit_no {x : Int} (h : okB x = false) : fitE x = 6 := by unfold fitE; rw [h]; rfl

theorem ok3_K {x y z : Int} (h : ok3 x y z = true) (k : Nat) : okB (compK k (x, y, z)) = true := by
  obtain ⟨h0, h1, h2⟩ := ok3_parts h
  unfold compK
  by_cases e0 : k = 0
  · rw [if_pos e0]; exact h0
  · rw [if_neg e0]
    by_cases e1 : k = 1
    · rw [if_pos e1]; exact h1
    · rw [if_neg e1]; exact h2

/-- the differences, place by place -/
def difK (X Y : V3) (k : Nat) : Int := compK k X - compK k Y

end Go.Proofs.Ytiniflddgnbngaa
