/-
  12 texts in one file, each with its own heading.
-/
import Derived.Test.YtbddpbfkobdhoaaMVec
import Derived.Test.YtbddpbfkobdhoaaMAff
/-
  Boxes and planes as functions of the place (a box: Min at 0 to 2, Max at 3 to 5; a plane: N at 0 to 2, D at 3); whether they may be, and whether a vector is in a box, by the reference of layer 4.
-/
namespace Go.Proofs.Ytbddpbfkobdhoaa
open Go.RowKit

/-- may a box be, by its first k places -/
def boxTo (B : Nat → Int) : Nat → Bool
  | 0 => rightV [(B 0, B 1, B 2), (B 3, B 4, B 5)]
  | k + 1 => boxTo B k && decide (B k ≤ B (3 + k))
def okBox (B : Nat → Int) : Bool := boxTo B 3
end Go.Proofs.Ytbddpbfkobdhoaa
/-
  What the reference's ends of layer 4 answers: the least and the greatest sum of a row's numbers with a box's.
-/
namespace Go.Proofs.Ytbddpbfkobdhoaa
open Go.RowKit

/-- two lists that the call appends to lie in blocks of their own -/
def Apart (v u : Value) : Prop := ∀ k, v.ownBlock = some k → u.ownBlock ≠ some k
theorem Apart.symm {v u : Value} (h : Apart v u) : Apart u v := fun k h1 h2 => h k h2 h1
end Go.Proofs.Ytbddpbfkobdhoaa
/-
  What the reference's Distance and Span of layer 4 answer.
-/
namespace Go.Proofs.Ytbddpbfkobdhoaa
open Go.RowKit

end Go.Proofs.Ytbddpbfkobdhoaa
/-
  What the reference's Carry of layer 4 answers.
-/
namespace Go.Proofs.Ytbddpbfkobdhoaa
open Go.RowKit

def r3 (x y z : Int) (j : Nat) : Int := [x, y, z].getD j 0
end Go.Proofs.Ytbddpbfkobdhoaa
/-
  Slices of boxes as lists; what the reference's Join of layer 4 answers.
-/
namespace Go.Proofs.Ytbddpbfkobdhoaa
open Go.ChangeShapes Go.WideShapes Go.ChangeAt Go.RowKit Go.Deep

/-! vectors that the call itself appends -/
def zeroB : Nat → Int := fun _ => 0
/-- a slice of boxes whose elements are 'Bs' -/
def BRow (w : World) (a : Option Addr) (len : Nat) (Bs : List (Nat → Int)) : Prop :=
  Bs.length = len ∧ len ≤ 9223372036854775807 ∧ (len = 0 ∨ ∃ b off, a = some ⟨b, off, none⟩ ∧ ∀ i, i < len → ∀ j, j < 6 → w.cell? ⟨b, off + i * 6 + j, none⟩ = some (.int .i64 (Bs.getD i zeroB j)))
theorem BRow.at_ {w : World} {a : Option Addr} {len k : Nat} {Bs : List (Nat → Int)} (h : BRow w a len Bs) (hk : k < len) :
    ∃ b off B, a = some ⟨b, off, none⟩ ∧ Bs[k]? = some B ∧ w.cell? ⟨b, off + k * 6, none⟩ = some (.int .i64 (B 0)) ∧ w.cell? ⟨b, off + k * 6 + 1, none⟩ = some (.int .i64 (B 1)) ∧ w.cell? ⟨b, off + k * 6 + 2, none⟩ = some (.int .i64 (B 2)) ∧ w.cell? ⟨b, off + k * 6 + 3, none⟩ = some (.int .i64 (B 3)) ∧ w.cell? ⟨b, off + k * 6 + 4, none⟩ = some (.int .i64 (B 4)) ∧ w.cell? ⟨b, off + k * 6 + 5, none⟩ = some (.int .i64 (B 5)) := by
  obtain ⟨h1, h2, h3⟩ := h
  rcases h3 with h3 | ⟨b, off, rfl, hc⟩
  · omega
  · have hk' : k < Bs.length := by omega
    have e : Bs.getD k zeroB = Bs[k] := by simp [List.getD, List.getElem?_eq_getElem hk']
    have c := hc k hk
    rw [e] at c
    exact ⟨b, off, _, rfl, List.getElem?_eq_getElem hk', c 0 (by omega), c 1 (by omega), c 2 (by omega), c 3 (by omega), c 4 (by omega), c 5 (by omega)⟩
end Go.Proofs.Ytbddpbfkobdhoaa
/-
  Inside, as plain arithmetic: what lies between two numbers, its product lies between theirs; so with sums, with boxes carried, spans and joins.
-/
namespace Go.Proofs.Ytbddpbfkobdhoaa
open Go.RowKit

end Go.Proofs.Ytbddpbfkobdhoaa
/-
  Arguments that are boxes and planes, opened to their numbers.
-/
namespace Go.Proofs.Ytbddpbfkobdhoaa
open Go.ChangeShapes Go.WideShapes Go.ChangeAt Go.RowKit Go.Deep

section
variable {H : Type} {enc : TypeId × Value → H} {w : World} {base : Nat} {spare : Nat → Bool} {held : Bool}

end
end Go.Proofs.Ytbddpbfkobdhoaa
/-
  '==' of two boxes that are the same.
-/
namespace Go.Proofs.Ytbddpbfkobdhoaa
open Go.RowKit

end Go.Proofs.Ytbddpbfkobdhoaa
/-
  What package shape's products, total and split answer.
-/
namespace Go.Proofs.Ytbddpbfkobdhoaa
open Go.RowKit

end Go.Proofs.Ytbddpbfkobdhoaa
/-
  What package shape's ends answers.
-/
namespace Go.Proofs.Ytbddpbfkobdhoaa
open Go.RowKit

end Go.Proofs.Ytbddpbfkobdhoaa
/-
  What package shape's Right, Plane and In answer.
-/
namespace Go.Proofs.Ytbddpbfkobdhoaa
open Go.RowKit

end Go.Proofs.Ytbddpbfkobdhoaa
/-
  What package shape's Distance and Span answer.
-/
namespace Go.Proofs.Ytbddpbfkobdhoaa
open Go.RowKit

end Go.Proofs.Ytbddpbfkobdhoaa
