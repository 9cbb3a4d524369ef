/-
  The library's changes of two rows about: each a region that draws its order, for any frame.
-/
import Derived.Test.YtiognhmjadiooaaMV07
import Derived.Deep.RegionHeld3
namespace Go.Proofs.Ytiognhmjadiooaa
open Go.RowKit

end Go.Proofs.Ytiognhmjadiooaa
