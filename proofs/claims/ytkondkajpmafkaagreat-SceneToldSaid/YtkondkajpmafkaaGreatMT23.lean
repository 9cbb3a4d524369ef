/-
  The reference's store: what its Sorted of layer 8 answers.
-/
import Derived.Test.YtkondkajpmafkaaGreatMT22
namespace Go.Proofs.YtkondkajpmafkaaGreat
open Go.RowKit

end Go.Proofs.YtkondkajpmafkaaGreat
