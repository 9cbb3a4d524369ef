/-
  What the reference's Apply of layer 3 answers.
-/
import Derived.Test.YthdgldoailjhhaaAffI
namespace Go.Proofs.Ythdgldoailjhhaa
open Go.RowKit

end Go.Proofs.Ythdgldoailjhhaa
