/-
  The landed forest answers as the bundles of layer 9 say.
-/
import Derived.Test.YtkpaiedlpdjaeaaGreatMQLfoJ
namespace Go.Proofs.YtkpaiedlpdjaeaaGreat
open Go.RowKit

end Go.Proofs.YtkpaiedlpdjaeaaGreat
