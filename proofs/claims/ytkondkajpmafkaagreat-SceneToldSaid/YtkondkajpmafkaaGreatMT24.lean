/-
  2 texts in one file, each with its own heading.
-/
import Derived.Test.YtkondkajpmafkaaGreatMT23
/-
  The reference's store: what its Gone and Changed of layer 8 answer.
-/
namespace Go.Proofs.YtkondkajpmafkaaGreat
open Go.RowKit

end Go.Proofs.YtkondkajpmafkaaGreat
