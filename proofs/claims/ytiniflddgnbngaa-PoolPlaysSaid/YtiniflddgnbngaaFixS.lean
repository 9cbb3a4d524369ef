/-
  What package fix's sum answers, and that of its reference; whether numbers may be, by the reference.
-/
import Derived.Test.YtiniflddgnbngaaFixB2
namespace Go.Proofs.Ytiniflddgnbngaa
open Go.RowKit

/-! plain facts on sums -/
theorem okB_getD (zs : List Int) (k : Nat) (h : rightB zs = true) (hk : k < zs.length) : -2147483648 ≤ zs.getD k 0 ∧ zs.getD k 0 ≤ 2147483647 := by
  unfold rightB at h
  rw [List.all_eq_true] at h
  have hm : zs.getD k 0 ∈ zs := by
    simp only [List.getD, List.getElem?_eq_getElem hk, Option.getD_some]
    exact List.getElem_mem hk
  exact okB_iff.1 (h _ hm)

theorem sum_succ (zs : List Int) (k : Nat) (h : k < zs.length) : (zs.take (k + 1)).sum = (zs.take k).sum + zs.getD k 0 := by
  rw [List.take_add_one, List.sum_append]
  simp [List.getD, List.getElem?_eq_getElem h]

theorem sum_bd (zs : List Int) (h : rightB zs = true) : ∀ k : Nat, k ≤ zs.length → -2147483648 * (k : Int) ≤ (zs.take k).sum ∧ (zs.take k).sum ≤ 2147483648 * (k : Int)
  | 0, _ => by simp
  | k + 1, hk => by
    have ih := sum_bd zs h k (by omega)
    have hb := okB_getD zs k h (by omega)
    rw [sum_succ zs k (by omega)]
    omega

def addOk (zs : List Int) : Bool := decide (zs.length ≤ 1024) && rightB zs
def addV (zs : List Int) : Int := if addOk zs then fitV zs.sum else 0
def addE (zs : List Int) : Int := if addOk zs then fitE zs.sum else 1

theorem addOk_many {zs : List Int} {len : Nat} (hl : zs.length = len) (h : 1024 < len) : addOk zs = false := by
  unfold addOk; rw [decide_eq_false (by omega)]; rfl
theorem addOk_wrong {zs : List Int} (h : rightB zs = false) : addOk zs = false := by unfold addOk; rw [h, Bool.and_false]
theorem addOk_yes {zs : List Int} {len : Nat} (hl : zs.length = len) (h : len ≤ 1024) (hr : rightB zs = true) : addOk zs = true := by
  unfold addOk; rw [decide_eq_true (by omega), hr]; rfl
theorem addV_no {zs : List Int} (h : addOk zs = false) : addV zs = 0 := by unfold addV; rw [if_neg (by rw [h]; decide)]
theorem addE_no {zs : List Int} (h : addOk zs = false) : addE zs = 1 := by unfold addE; rw [if_neg (by rw [h]; decide)]
theorem addV_yes {zs : List Int} (h : addOk zs = true) : addV zs = fitV zs.sum := by unfold addV; rw [if_pos h]
theorem addE_yes {zs : List Int} (h : addOk zs = true) : addE zs = fitE zs.sum := by unfold addE; rw [if_pos h]

/-! the reference -/
end Go.Proofs.Ytiniflddgnbngaa
