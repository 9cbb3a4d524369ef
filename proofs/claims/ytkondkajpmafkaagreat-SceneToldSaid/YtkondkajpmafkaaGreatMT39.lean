/-
  Two statements of 'same' of the law of layer 11 that draw their order, for any frame; equal nodes.
-/
import Derived.Test.YtkondkajpmafkaaGreatMT38
namespace Go.Proofs.YtkondkajpmafkaaGreat
open Go.RowKit

end Go.Proofs.YtkondkajpmafkaaGreat
