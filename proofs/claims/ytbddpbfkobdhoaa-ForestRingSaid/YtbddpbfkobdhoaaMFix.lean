/-
  6 texts in one file, each with its own heading.
-/
import Derived.Test.YtbddpbfkobdhoaaRows
import Derived.WalkKit
import Derived.WalkSpells
import Derived.WalkLawsBesides
import Derived.BigQuiet
import Derived.Lib.Hide
import Derived.Below
import Derived.OpenShut
/-
  What the leaves of package fix, and of its reference, answer: each returns what its plain Lean function says, and leaves all memory that was there as it was.
-/
namespace Go.Proofs.Ytbddpbfkobdhoaa
open Go.RowKit

/-- may a number be? -/
def okB (x : Int) : Bool := decide (-2147483648 ≤ x ∧ x ≤ 2147483647)
def rightB (zs : List Int) : Bool := zs.all okB

/-- a slice of integers of 64 bits whose elements are 'zs' -/
def Row (w : World) (a : Option Addr) (len : Nat) (zs : List Int) : Prop :=
  zs.length = len ∧ len ≤ 9223372036854775807 ∧ (len = 0 ∨ ∃ b off, a = some ⟨b, off, none⟩ ∧ ∀ i, i < len → w.cell? ⟨b, off + i, none⟩ = some (.int .i64 (zs.getD i 0)))

end Go.Proofs.Ytbddpbfkobdhoaa
/-
  What package fix's functions of one and two numbers answer: each returns what its plain Lean function says, and leaves all memory that was there as it was.
-/
namespace Go.Proofs.Ytbddpbfkobdhoaa
open Go.RowKit

theorem row1 (w : World) (x : Int) (t : TypeId) : Row (w.alloc (.cells #[.int .i64 x] t)) (some ⟨w.heap.size, 0, none⟩) 1 [x] := by
  refine ⟨rfl, by omega, Or.inr ⟨_, _, rfl, fun i hi => ?_⟩⟩
  obtain rfl : i = 0 := by omega
  simp [List.getD]

theorem row2 (w : World) (x y : Int) (t : TypeId) : Row (w.alloc (.cells #[.int .i64 x, .int .i64 y] t)) (some ⟨w.heap.size, 0, none⟩) 2 [x, y] := by
  refine ⟨rfl, by omega, Or.inr ⟨_, _, rfl, fun i hi => ?_⟩⟩
  obtain rfl | rfl : i = 0 ∨ i = 1 := by omega
  · simp [List.getD]
  · simp [List.getD]

theorem alloc_below (w : World) (o : Obj) : Below w.heap.size w (w.alloc o) := (Below.refl _ _).alloc (Nat.le_refl _) o

theorem bthen {w a b : World} (h : Below w.heap.size w a) (k : Below a.heap.size a b) : Below w.heap.size w b := h.trans (k.mono h.size)
theorem balloc {w a : World} (h : Below w.heap.size w a) (o : Obj) : Below w.heap.size w (a.alloc o) := h.alloc h.size o
end Go.Proofs.Ytbddpbfkobdhoaa
/-
  Plain arithmetic for package fix: floors of products and quotients.
-/
namespace Go.Proofs.Ytbddpbfkobdhoaa
set_option linter.unusedVariables false

end Go.Proofs.Ytbddpbfkobdhoaa
/-
  What package fix's functions of one and two numbers answer (second part).
-/
namespace Go.Proofs.Ytbddpbfkobdhoaa
open Go.RowKit

theorem below_drewN (w : World) (n : Nat) : Below w.heap.size w (w.drewN n) := Go.below_drewN (Below.refl _ _) n

end Go.Proofs.Ytbddpbfkobdhoaa
/-
  What package fix's sum answers, and that of its reference; whether numbers may be, by the reference.
-/
namespace Go.Proofs.Ytbddpbfkobdhoaa
open Go.RowKit

/-! plain facts on sums -/
/-! the reference -/
end Go.Proofs.Ytbddpbfkobdhoaa
/-
  What the reference's functions of one and two numbers answer: the same plain Lean functions as package fix's.
-/
namespace Go.Proofs.Ytbddpbfkobdhoaa
open Go.RowKit

end Go.Proofs.Ytbddpbfkobdhoaa
