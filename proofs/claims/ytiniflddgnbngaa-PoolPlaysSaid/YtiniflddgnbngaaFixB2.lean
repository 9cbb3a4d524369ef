/-
  What package fix's functions of one and two numbers answer (second part).
-/
import Derived.Test.YtiniflddgnbngaaFixB
import Derived.Test.YtiniflddgnbngaaFixM
namespace Go.Proofs.Ytiniflddgnbngaa
open Go.RowKit

theorem mul_bound {a b : Int} (ha : okB a = true) (hb : okB b = true) : -4611686018427387904 ≤ a * b ∧ a * b ≤ 4611686018427387904 := by
  rw [okB_iff] at ha hb
  have h : (a * b).natAbs ≤ 2147483648 * 2147483648 := by
    rw [Int.natAbs_mul]
    exact Nat.mul_le_mul (by omega) (by omega)
  omega

def mulV (a b : Int) : Int := if okB a && okB b then fitV (a * b / 65536) else 0
def mulE (a b : Int) : Int := if okB a && okB b then fitE (a * b / 65536) else 1

theorem below_drewN (w : World) (n : Nat) : Below w.heap.size w (w.drewN n) := Go.below_drewN (Below.refl _ _) n

theorem signs_ne {x y : Int} (h : (!decide (x < 0) == decide (y < 0)) = true) : (x < 0 ∧ 0 ≤ y) ∨ (0 ≤ x ∧ y < 0) := by
  by_cases h1 : x < 0 <;> by_cases h2 : y < 0 <;> simp [h1, h2] at h ⊢ <;> omega
theorem signs_eq {x y : Int} (h : (!decide (x < 0) == decide (y < 0)) = false) : (x < 0 ∧ y < 0) ∨ (0 ≤ x ∧ 0 ≤ y) := by
  by_cases h1 : x < 0 <;> by_cases h2 : y < 0 <;> simp [h1, h2] at h ⊢ <;> omega

def divOk (a b : Int) : Bool := okB a && okB b && b != 0
def divV (a b : Int) : Int := if divOk a b then fitV ((a * 65536).fdiv b) else 0
def divE (a b : Int) : Int := if divOk a b then fitE ((a * 65536).fdiv b) else 1

theorem tdiv_bound (x b : Int) (h1 : -140737488355328 ≤ x) (h2 : x ≤ 140737488355328) : -140737488355328 ≤ x.tdiv b ∧ x.tdiv b ≤ 140737488355328 := by
  have h : (x.tdiv b).natAbs ≤ x.natAbs := by rw [Int.natAbs_tdiv]; exact Nat.div_le_self _ _
  omega

def negV (a : Int) : Int := if okB a then fitV (-a) else 0
def negE (a : Int) : Int := if okB a then fitE (-a) else 1

def ofB (n : Int) : Bool := decide (-32768 ≤ n ∧ n ≤ 32767)
def ofV (n : Int) : Int := if ofB n then n * 65536 else 0
def ofE (n : Int) : Int := if ofB n then 0 else 6

end Go.Proofs.Ytiniflddgnbngaa
