/-
  3 texts in one file, each with its own heading.
-/
import Derived.Test.YtkondkajpmafkaaGreatMT21
/-
  The reference's store: what its Spawn and lay of layer 8 answer.
-/
namespace Go.Proofs.YtkondkajpmafkaaGreat
open Go.RowKit

end Go.Proofs.YtkondkajpmafkaaGreat
