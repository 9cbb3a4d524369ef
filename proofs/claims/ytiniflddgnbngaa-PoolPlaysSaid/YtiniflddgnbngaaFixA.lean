/-
  What the leaves of package fix, and of its reference, answer: each returns what its plain Lean function says, and leaves all memory that was there as it was.
-/
import Derived.Test.YtiniflddgnbngaaRows
import Derived.WalkKit
import Derived.WalkSpells
import Derived.WalkLawsBesides
import Derived.BigQuiet
import Derived.Lib.Hide
namespace Go.Proofs.Ytiniflddgnbngaa
open Go.RowKit

/-- may a number be? -/
def okB (x : Int) : Bool := decide (-2147483648 ≤ x ∧ x ≤ 2147483647)
def rightB (zs : List Int) : Bool := zs.all okB

/-- a slice of integers of 64 bits whose elements are 'zs' -/
def Row (w : World) (a : Option Addr) (len : Nat) (zs : List Int) : Prop :=
  zs.length = len ∧ len ≤ 9223372036854775807 ∧ (len = 0 ∨ ∃ b off, a = some ⟨b, off, none⟩ ∧ ∀ i, i < len → w.cell? ⟨b, off + i, none⟩ = some (.int .i64 (zs.getD i 0)))

theorem rightB_take_succ (zs : List Int) (k : Nat) (h : k < zs.length) : rightB (zs.take (k + 1)) = (rightB (zs.take k) && okB (zs.getD k 0)) := by
  unfold rightB
  rw [List.take_add_one, List.all_append]
  simp [List.getD, List.getElem?_eq_getElem h]

theorem rightB_bad (zs : List Int) (k : Nat) (h : k < zs.length) (hb : okB (zs.getD k 0) = false) : rightB zs = false := by
  unfold rightB
  rw [List.all_eq_false]
  refine ⟨zs.getD k 0, ?_, by rw [hb]; decide⟩
  simp only [List.getD, List.getElem?_eq_getElem h, Option.getD_some]
  exact List.getElem_mem h

theorem ret_bool {a b : Bool} (h : a = b) : Ending.returned (.bool a) = .returned (.bool b) := by rw [h]
theorem ret_int {k : IntKind} {a b : Int} (h : a = b) : Ending.returned (.int k a) = .returned (.int k b) := by rw [h]
theorem okB_lo {x : Int} (h : x < -2147483648) : okB x = false := by unfold okB; rw [decide_eq_false_iff_not]; omega
theorem okB_hi {x : Int} (h : 2147483647 < x) : okB x = false := by unfold okB; rw [decide_eq_false_iff_not]; omega
theorem okB_yes {x : Int} (h : -2147483648 ≤ x) (h2 : x ≤ 2147483647) : okB x = true := by unfold okB; rw [decide_eq_true_iff]; omega
theorem okB_iff {x : Int} : okB x = true ↔ (-2147483648 ≤ x ∧ x ≤ 2147483647) := by unfold okB; simp

end Go.Proofs.Ytiniflddgnbngaa
