/-
  What package vec's Of, Add, Sub, Scale and Dot answer.
-/
import Derived.Test.YtiniflddgnbngaaVecD
namespace Go.Proofs.Ytiniflddgnbngaa
open Go.RowKit

def vofE (x y z : Int) : Int := first3 (ofE x) (ofE y) (ofE z)
def vaddOk (vs : List V3) : Bool := decide (vs.length ≤ 1024) && rightV vs
def vaddE (vs : List V3) : Int := if vaddOk vs then first3 (addE (col0 vs)) (addE (col1 vs)) (addE (col2 vs)) else 1
def ok6 (x0 x1 x2 y0 y1 y2 : Int) : Bool := ok3 x0 x1 x2 && ok3 y0 y1 y2
def vsubE (x0 x1 x2 y0 y1 y2 : Int) : Int := if ok6 x0 x1 x2 y0 y1 y2 then first3 (fitE (x0 - y0)) (fitE (x1 - y1)) (fitE (x2 - y2)) else 1
def vscaleE (x0 x1 x2 k : Int) : Int := if ok3 x0 x1 x2 && okB k then first3 (mulE x0 k) (mulE x1 k) (mulE x2 k) else 1
def prodE (x0 x1 x2 y0 y1 y2 : Int) : Int := first3 (mulE x0 y0) (mulE x1 y1) (mulE x2 y2)
def dotE (x0 x1 x2 y0 y1 y2 : Int) : Int := if ok6 x0 x1 x2 y0 y1 y2 then (if prodE x0 x1 x2 y0 y1 y2 = 0 then addE [mulV x0 y0, mulV x1 y1, mulV x2 y2] else prodE x0 x1 x2 y0 y1 y2) else 1
def dotV (x0 x1 x2 y0 y1 y2 : Int) : Int := if ok6 x0 x1 x2 y0 y1 y2 then (if prodE x0 x1 x2 y0 y1 y2 = 0 then addV [mulV x0 y0, mulV x1 y1, mulV x2 y2] else 0) else 0

theorem gate1 (v : Int) : gate 1 v = 0 := rfl
theorem rightV2 (x0 x1 x2 y0 y1 y2 : Int) : rightV [(x0, x1, x2), (y0, y1, y2)] = ok6 x0 x1 x2 y0 y1 y2 := by simp [rightV, okV, ok6]
theorem rightV1 (x0 x1 x2 : Int) : rightV [(x0, x1, x2)] = ok3 x0 x1 x2 := by simp [rightV, okV]
theorem ok3_parts {x y z : Int} (h : ok3 x y z = true) : okB x = true ∧ okB y = true ∧ okB z = true := by simpa [ok3, rightB, and_assoc] using h
theorem ok6_parts {x0 x1 x2 y0 y1 y2 : Int} (h : ok6 x0 x1 x2 y0 y1 y2 = true) : ok3 x0 x1 x2 = true ∧ ok3 y0 y1 y2 = true := by simpa [ok6] using h

theorem vaddE_no {vs : List V3} (h : vaddOk vs = false) : vaddE vs = 1 := by unfold vaddE; rw [h]; rfl
theorem vaddE_yes {vs : List V3} (h : vaddOk vs = true) : vaddE vs = first3 (addE (col0 vs)) (addE (col1 vs)) (addE (col2 vs)) := by unfold vaddE; rw [if_pos h]
theorem vaddOk_many {vs : List V3} {len : Nat} (hl : vs.length = len) (h : 1024 < len) : vaddOk vs = false := by unfold vaddOk; rw [decide_eq_false (by omega)]; rfl
theorem vaddOk_wrong {vs : List V3} (h : rightV vs = false) : vaddOk vs = false := by unfold vaddOk; rw [h, Bool.and_false]
theorem vaddOk_yes {vs : List V3} {len : Nat} (hl : vs.length = len) (h : len ≤ 1024) (hr : rightV vs = true) : vaddOk vs = true := by unfold vaddOk; rw [decide_eq_true (by omega), hr]; rfl

theorem below_alloc1 {w w1 : World} {o : Obj} (h : Below (w.alloc o).heap.size (w.alloc o) w1) : Below w.heap.size w w1 := bthen (alloc_below _ _) h

end Go.Proofs.Ytiniflddgnbngaa
