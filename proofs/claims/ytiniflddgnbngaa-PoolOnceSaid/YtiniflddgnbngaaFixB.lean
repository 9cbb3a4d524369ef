/-
  What package fix's functions of one and two numbers answer: each returns what its plain Lean function says, and leaves all memory that was there as it was.
-/
import Derived.Test.YtiniflddgnbngaaFixA
namespace Go.Proofs.Ytiniflddgnbngaa
open Go.RowKit

theorem row1 (w : World) (x : Int) (t : TypeId) : Row (w.alloc (.cells #[.int .i64 x] t)) (some ⟨w.heap.size, 0, none⟩) 1 [x] := by
  refine ⟨rfl, by omega, Or.inr ⟨_, _, rfl, fun i hi => ?_⟩⟩
  obtain rfl : i = 0 := by omega
  simp [List.getD]

theorem row2 (w : World) (x y : Int) (t : TypeId) : Row (w.alloc (.cells #[.int .i64 x, .int .i64 y] t)) (some ⟨w.heap.size, 0, none⟩) 2 [x, y] := by
  refine ⟨rfl, by omega, Or.inr ⟨_, _, rfl, fun i hi => ?_⟩⟩
  obtain rfl | rfl : i = 0 ∨ i = 1 := by omega
  · simp [List.getD]
  · simp [List.getD]

/-- the same, the block's number spelt by the caller -/
theorem row1At (w : World) (x : Int) (t : TypeId) (N : Nat) (hN : w.heap.size = N) : Row (w.alloc (.cells #[.int .i64 x] t)) (some ⟨N, 0, none⟩) 1 [x] := by
  subst hN; exact row1 w x t
theorem row2At (w : World) (x y : Int) (t : TypeId) (N : Nat) (hN : w.heap.size = N) : Row (w.alloc (.cells #[.int .i64 x, .int .i64 y] t)) (some ⟨N, 0, none⟩) 2 [x, y] := by
  subst hN; exact row2 w x y t

theorem rightB1 (x : Int) : rightB [x] = okB x := by simp [rightB]
theorem rightB2 (x y : Int) : rightB [x, y] = (okB x && okB y) := by simp [rightB]

def fitV (x : Int) : Int := if okB x then x else 0
def fitE (x : Int) : Int := if okB x then 0 else 6

theorem alloc_below (w : World) (o : Obj) : Below w.heap.size w (w.alloc o) := (Below.refl _ _).alloc (Nat.le_refl _) o

theorem bthen {w a b : World} (h : Below w.heap.size w a) (k : Below a.heap.size a b) : Below w.heap.size w b := h.trans (k.mono h.size)
theorem balloc {w a : World} (h : Below w.heap.size w a) (o : Obj) : Below w.heap.size w (a.alloc o) := h.alloc h.size o
/-- behind a new block -/
theorem bafter {w a b : World} {o : Obj} (h : Below w.heap.size w a) (k : Below (a.heap.size + 1) (a.alloc o) b) : Below w.heap.size w b := (balloc h o).trans (k.mono (Nat.le_succ_of_le h.size))

end Go.Proofs.Ytiniflddgnbngaa
