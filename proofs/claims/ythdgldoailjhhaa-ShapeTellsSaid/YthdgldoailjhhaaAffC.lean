/-
  What package affine's Move answers, and the reference's.
-/
import Derived.Test.YthdgldoailjhhaaAffB
namespace Go.Proofs.Ythdgldoailjhhaa
open Go.RowKit

end Go.Proofs.Ythdgldoailjhhaa
