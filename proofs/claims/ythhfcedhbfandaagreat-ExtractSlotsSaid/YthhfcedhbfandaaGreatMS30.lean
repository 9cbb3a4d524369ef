/-
  2 texts in one file, each with its own heading.
-/
import Derived.Test.YthhfcedhbfandaaGreatMS29
import Derived.Test.YthhfcedhbfandaaGreatMS20
/-
  The reference's scene: what its live, New, Spawn, Despawn, Adopt and Free of layer 11 answer.
-/
namespace Go.Proofs.YthhfcedhbfandaaGreat
open Go.RowKit

theorem drew_below (w : World) : Below w.heap.size w w.drew := ⟨rfl, rfl, rfl, Nat.le_refl _, fun _ _ => rfl⟩
def cFs (s : Stt) : List Value := [.int .i64 (s.wo 0), .int .i64 (s.wo 1), .int .i64 (s.wo 2), .int .i64 (s.wo 3), .int .i64 (s.wo 4), .int .i64 (s.wo 5), .int .i64 (s.wo 6), .int .i64 (s.wo 7), .int .i64 (s.wo 8), .int .i64 (s.wo 9), .int .i64 (s.wo 10), .int .i64 (s.wo 11), .bool s.sh]
def ChR (FB : World → Nat → (Nat → Prop) → FD → Prop) (w w' : World) (g : Nat) (F : Nat → Prop) (D : FD) : Prop := ∃ F', FB w' g F' D ∧ Fr w w' F ∧ ∀ b, F' b → F b
section
variable {FB : World → Nat → (Nat → Prop) → FD → Prop}
end
end Go.Proofs.YthhfcedhbfandaaGreat
