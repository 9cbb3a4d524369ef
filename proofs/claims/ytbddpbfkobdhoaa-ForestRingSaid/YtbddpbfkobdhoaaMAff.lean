/-
  14 texts in one file, each with its own heading.
-/
import Derived.Test.YtbddpbfkobdhoaaMVec
import Derived.WalkKit
import Derived.ProofKit
import Derived.OpenShut
import Derived.Deep.Slices
import Derived.Laws.IdiomArrays
/-
  Matrices as functions of the place: blocks, rows and slices of them; where a row's number stands; whether matrices may be.
-/
namespace Go.Proofs.Ytbddpbfkobdhoaa
open Go.RowKit

theorem lt12 {k : Nat} (hk : k < 12) : k = 0 ∨ k = 1 ∨ k = 2 ∨ k = 3 ∨ k = 4 ∨ k = 5 ∨ k = 6 ∨ k = 7 ∨ k = 8 ∨ k = 9 ∨ k = 10 ∨ k = 11 := by omega
def zeroM : Nat → Int := fun _ => 0
def okM (M : Nat → Int) : Bool := rightB [M 0, M 1, M 2, M 3, M 4, M 5, M 6, M 7, M 8, M 9, M 10, M 11]
/-- a slice of matrices whose elements are 'Ms' -/
def MRow (w : World) (a : Option Addr) (len : Nat) (Ms : List (Nat → Int)) : Prop :=
  Ms.length = len ∧ len ≤ 9223372036854775807 ∧ (len = 0 ∨ ∃ b off, a = some ⟨b, off, none⟩ ∧ ∀ i, i < len → ∀ j, j < 12 → w.cell? ⟨b, off + i * 12 + j, none⟩ = some (.int .i64 (Ms.getD i zeroM j)))
theorem MRow.at_ {w : World} {a : Option Addr} {len k : Nat} {Ms : List (Nat → Int)} (h : MRow w a len Ms) (hk : k < len) :
    ∃ b off M, a = some ⟨b, off, none⟩ ∧ Ms[k]? = some M ∧ w.cell? ⟨b, off + k * 12, none⟩ = some (.int .i64 (M 0)) ∧ w.cell? ⟨b, off + k * 12 + 1, none⟩ = some (.int .i64 (M 1)) ∧ w.cell? ⟨b, off + k * 12 + 2, none⟩ = some (.int .i64 (M 2)) ∧ w.cell? ⟨b, off + k * 12 + 3, none⟩ = some (.int .i64 (M 3)) ∧ w.cell? ⟨b, off + k * 12 + 4, none⟩ = some (.int .i64 (M 4)) ∧ w.cell? ⟨b, off + k * 12 + 5, none⟩ = some (.int .i64 (M 5)) ∧ w.cell? ⟨b, off + k * 12 + 6, none⟩ = some (.int .i64 (M 6)) ∧ w.cell? ⟨b, off + k * 12 + 7, none⟩ = some (.int .i64 (M 7)) ∧ w.cell? ⟨b, off + k * 12 + 8, none⟩ = some (.int .i64 (M 8)) ∧ w.cell? ⟨b, off + k * 12 + 9, none⟩ = some (.int .i64 (M 9)) ∧ w.cell? ⟨b, off + k * 12 + 10, none⟩ = some (.int .i64 (M 10)) ∧ w.cell? ⟨b, off + k * 12 + 11, none⟩ = some (.int .i64 (M 11)) := by
  obtain ⟨h1, h2, h3⟩ := h
  rcases h3 with h3 | ⟨b, off, rfl, hc⟩
  · omega
  · have hk' : k < Ms.length := by omega
    have e : Ms.getD k zeroM = Ms[k] := by simp [List.getD, List.getElem?_eq_getElem hk']
    have c := hc k hk
    rw [e] at c
    exact ⟨b, off, _, rfl, List.getElem?_eq_getElem hk', c 0 (by omega), c 1 (by omega), c 2 (by omega), c 3 (by omega), c 4 (by omega), c 5 (by omega), c 6 (by omega), c 7 (by omega), c 8 (by omega), c 9 (by omega), c 10 (by omega), c 11 (by omega)⟩
end Go.Proofs.Ytbddpbfkobdhoaa
/-
  What package affine's Scale, Same, Move and Turn answer, and the reference's.
-/
namespace Go.Proofs.Ytbddpbfkobdhoaa
open Go.RowKit

/-- what is known of a world, in the place of the world -/
theorem fin {Q : World → Prop} {W : World} (P : World → Prop) (h : P W) (k : ∀ W', P W' → Q W') : Q W := k W h
theorem bdrewn {n : Nat} {w a : World} (h : Below n w a) : Below n w a.drew := ⟨h.os, h.tape, h.output, h.size, h.block⟩

end Go.Proofs.Ytbddpbfkobdhoaa
/-
  What package affine's Move answers, and the reference's.
-/
namespace Go.Proofs.Ytbddpbfkobdhoaa
open Go.RowKit

end Go.Proofs.Ytbddpbfkobdhoaa
/-
  What package affine's Turn answers, and the reference's.
-/
namespace Go.Proofs.Ytbddpbfkobdhoaa
open Go.RowKit

end Go.Proofs.Ytbddpbfkobdhoaa
/-
  What package affine's along and column answer: a row's products with a vector, and one number more, added; a column.
-/
namespace Go.Proofs.Ytbddpbfkobdhoaa
open Go.RowKit

end Go.Proofs.Ytbddpbfkobdhoaa
/-
  What the reference's sum of layer 3 answers.
-/
namespace Go.Proofs.Ytbddpbfkobdhoaa
open Go.RowKit

end Go.Proofs.Ytbddpbfkobdhoaa
/-
  What package affine's pair answers: the product of two matrices.
-/
namespace Go.Proofs.Ytbddpbfkobdhoaa
open Go.RowKit

end Go.Proofs.Ytbddpbfkobdhoaa
/-
  What the reference's Two of layer 3 answers, of two matrices that may be.
-/
namespace Go.Proofs.Ytbddpbfkobdhoaa
open Go.RowKit

def v3 (x y z : Int) (j : Nat) : Int := [x, y, z].getD j 0
end Go.Proofs.Ytbddpbfkobdhoaa
/-
  What package affine's Apply answers, and the reference's.
-/
namespace Go.Proofs.Ytbddpbfkobdhoaa
open Go.RowKit

end Go.Proofs.Ytbddpbfkobdhoaa
/-
  What the reference's Apply of layer 3 answers.
-/
namespace Go.Proofs.Ytbddpbfkobdhoaa
open Go.RowKit

end Go.Proofs.Ytbddpbfkobdhoaa
/-
  What package affine's Mul answers: the product of a list of matrices.
-/
namespace Go.Proofs.Ytbddpbfkobdhoaa
open Go.RowKit

end Go.Proofs.Ytbddpbfkobdhoaa
/-
  What the reference's Mul of layer 3 answers.
-/
namespace Go.Proofs.Ytbddpbfkobdhoaa
open Go.RowKit

theorem MRow.range {w : World} {a : Option Addr} {len k : Nat} {Ms : List (Nat → Int)} (h : MRow w a len Ms) (hk : k < len) :
    ∃ b off M, a = some ⟨b, off, none⟩ ∧ Ms[k]? = some M ∧ w.rangeAt b (off + k * 12) [.int .i64 (M 0), .int .i64 (M 1), .int .i64 (M 2), .int .i64 (M 3), .int .i64 (M 4), .int .i64 (M 5), .int .i64 (M 6), .int .i64 (M 7), .int .i64 (M 8), .int .i64 (M 9), .int .i64 (M 10), .int .i64 (M 11)] := by
  obtain ⟨h1, h2, h3⟩ := h
  rcases h3 with h3 | ⟨b, off, rfl, hc⟩
  · omega
  · have hk' : k < Ms.length := by omega
    have e : Ms.getD k zeroM = Ms[k] := by simp [List.getD, List.getElem?_eq_getElem hk']
    have c := hc k hk
    rw [e] at c
    refine ⟨b, off, _, rfl, List.getElem?_eq_getElem hk', fun j v hv => ?_⟩
    have hj : j < 12 := by have := (List.getElem?_eq_some_iff.1 hv).1; simpa using this
    rw [c j hj]
    rcases lt12 hj with rfl | rfl | rfl | rfl | rfl | rfl | rfl | rfl | rfl | rfl | rfl | rfl <;> simpa using hv
end Go.Proofs.Ytbddpbfkobdhoaa
/-
  '==' of two matrices that are the same; slices of two and of four matrices; the laws' own live question of layer 3 answers true; arguments that are matrices, opened to their numbers.
-/
namespace Go.Proofs.Ytbddpbfkobdhoaa
open Go.ChangeShapes Go.WideShapes Go.ChangeAt Go.RowKit Go.Deep

end Go.Proofs.Ytbddpbfkobdhoaa
/-
  Arguments that are matrices, opened to their numbers.
-/
namespace Go.Proofs.Ytbddpbfkobdhoaa
open Go.ChangeShapes Go.WideShapes Go.ChangeAt Go.RowKit Go.Deep

section
variable {H : Type} {enc : TypeId × Value → H} {w : World} {base : Nat} {spare : Nat → Bool} {held : Bool}

end
end Go.Proofs.Ytbddpbfkobdhoaa
