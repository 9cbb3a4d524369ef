/-
  What package vec's Sub, Scale and Dot answer.
-/
import Derived.Test.YtiniflddgnbngaaVecE
namespace Go.Proofs.Ytiniflddgnbngaa
open Go.RowKit

theorem bset3 {w a : World} {g : Nat} {u0 u1 u2 : Value} (h : Below w.heap.size w a) (hg : w.heap.size ≤ g) : Below w.heap.size w (((a.setCell ⟨g, 0, none⟩ u0).setCell ⟨g, 1, none⟩ u1).setCell ⟨g, 2, none⟩ u2) := ((h.setCell hg _).setCell hg _).setCell hg _

theorem vrow1 {w : World} {g : Nat} {t : TypeId} {x0 x1 x2 : Int} (h : Blk w g t #[.int .i64 x0, .int .i64 x1, .int .i64 x2]) : VRow w (some ⟨g, 0, none⟩) 1 [(x0, x1, x2)] := by
  refine ⟨rfl, by omega, Or.inr ⟨_, _, rfl, fun i hi => ?_⟩⟩
  obtain rfl : i = 0 := by omega
  exact ⟨h.cell 0, h.cell 1, h.cell 2⟩
theorem vrow2 {w : World} {g : Nat} {t : TypeId} {x0 x1 x2 y0 y1 y2 : Int} (h : Blk w g t #[.int .i64 x0, .int .i64 x1, .int .i64 x2, .int .i64 y0, .int .i64 y1, .int .i64 y2]) : VRow w (some ⟨g, 0, none⟩) 2 [(x0, x1, x2), (y0, y1, y2)] := by
  refine ⟨rfl, by omega, Or.inr ⟨_, _, rfl, fun i hi => ?_⟩⟩
  obtain rfl | rfl : i = 0 ∨ i = 1 := by omega
  · exact ⟨h.cell 0, h.cell 1, h.cell 2⟩
  · exact ⟨h.cell 3, h.cell 4, h.cell 5⟩

theorem vsubE_no {x0 x1 x2 y0 y1 y2 : Int} (h : ok6 x0 x1 x2 y0 y1 y2 = false) : vsubE x0 x1 x2 y0 y1 y2 = 1 := by unfold vsubE; rw [h]; rfl
theorem vsubE_yes {x0 x1 x2 y0 y1 y2 : Int} (h : ok6 x0 x1 x2 y0 y1 y2 = true) : vsubE x0 x1 x2 y0 y1 y2 = first3 (fitE (x0 - y0)) (fitE (x1 - y1)) (fitE (x2 - y2)) := by unfold vsubE; rw [if_pos h]
theorem vscaleE_no {x0 x1 x2 k : Int} (h : (ok3 x0 x1 x2 && okB k) = false) : vscaleE x0 x1 x2 k = 1 := by unfold vscaleE; rw [h]; rfl
theorem vscaleE_yes {x0 x1 x2 k : Int} (h : (ok3 x0 x1 x2 && okB k) = true) : vscaleE x0 x1 x2 k = first3 (mulE x0 k) (mulE x1 k) (mulE x2 k) := by unfold vscaleE; rw [if_pos h]

theorem dot_no {x0 x1 x2 y0 y1 y2 : Int} (h : ok6 x0 x1 x2 y0 y1 y2 = false) : dotV x0 x1 x2 y0 y1 y2 = 0 ∧ dotE x0 x1 x2 y0 y1 y2 = 1 := by unfold dotV dotE; rw [h]; exact ⟨rfl, rfl⟩
theorem dot_over {x0 x1 x2 y0 y1 y2 : Int} (h : ok6 x0 x1 x2 y0 y1 y2 = true) (h2 : prodE x0 x1 x2 y0 y1 y2 ≠ 0) : dotV x0 x1 x2 y0 y1 y2 = 0 ∧ dotE x0 x1 x2 y0 y1 y2 = prodE x0 x1 x2 y0 y1 y2 := by
  unfold dotV dotE; rw [if_pos h, if_pos h, if_neg h2, if_neg h2]; exact ⟨rfl, rfl⟩
theorem dot_yes {x0 x1 x2 y0 y1 y2 : Int} (h : ok6 x0 x1 x2 y0 y1 y2 = true) (h2 : prodE x0 x1 x2 y0 y1 y2 = 0) : dotV x0 x1 x2 y0 y1 y2 = addV [mulV x0 y0, mulV x1 y1, mulV x2 y2] ∧ dotE x0 x1 x2 y0 y1 y2 = addE [mulV x0 y0, mulV x1 y1, mulV x2 y2] := by
  unfold dotV dotE; rw [if_pos h, if_pos h, if_pos h2, if_pos h2]; exact ⟨rfl, rfl⟩
theorem gate0 (v : Int) : gate 0 v = v := rfl

end Go.Proofs.Ytiniflddgnbngaa
