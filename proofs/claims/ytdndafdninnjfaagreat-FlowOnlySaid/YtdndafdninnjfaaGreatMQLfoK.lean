/-
  The landed forest answers as the bundles of layer 9 say.
-/
import Derived.Test.YtdndafdninnjfaaGreatMQLfoJ
namespace Go.Proofs.YtdndafdninnjfaaGreat
open Go.RowKit

end Go.Proofs.YtdndafdninnjfaaGreat
