/-
  What the reference's Two of layer 3 answers, of two matrices that may be.
-/
import Derived.Test.YthdgldoailjhhaaAffG
namespace Go.Proofs.Ythdgldoailjhhaa
open Go.RowKit

def v3 (x y z : Int) (j : Nat) : Int := [x, y, z].getD j 0
end Go.Proofs.Ythdgldoailjhhaa
