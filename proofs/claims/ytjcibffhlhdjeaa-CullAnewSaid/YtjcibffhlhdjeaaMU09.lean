/-
  The library's changes of two rows about: each a region that draws its order, for any frame.
-/
import Derived.Test.YtjcibffhlhdjeaaMU08
import Derived.Deep.RegionHeld3
namespace Go.Proofs.Ytjcibffhlhdjeaa
open Go.RowKit

end Go.Proofs.Ytjcibffhlhdjeaa
