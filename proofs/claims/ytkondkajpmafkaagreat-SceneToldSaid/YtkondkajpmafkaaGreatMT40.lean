/-
  A program's scene and the reference's, side by side; 'same' of the law ScenePlays of layer 11, for any package that answers as the bundle says.
-/
import Derived.Test.YtkondkajpmafkaaGreatMT39
namespace Go.Proofs.YtkondkajpmafkaaGreat
open Go.RowKit

/-- the program's scene and the reference's, side by side, each new since w0 -/
structure Duo11 (XB : World → Nat → (Nat → Prop) → Sc → Prop) (w0 w : World) (gp gr : Nat) (Fp Fq : Nat → Prop) (X Y : Sc) : Prop where
  p : XB w gp Fp X
  q : RSB w gr Fq Y
  far : ∀ b, Fp b → ¬ Fq b
  low : Below w0.heap.size w0 w
  np : ∀ b, Fp b → w0.heap.size ≤ b
  nq : ∀ b, Fq b → w0.heap.size ≤ b
section
variable {XB : World → Nat → (Nat → Prop) → Sc → Prop} {w0 w w' : World} {gp gr : Nat} {Fp Fq : Nat → Prop} {X Y X' Y' : Sc}
end
section
variable {XB : World → Nat → (Nat → Prop) → Sc → Prop}
end
end Go.Proofs.YtkondkajpmafkaaGreat
