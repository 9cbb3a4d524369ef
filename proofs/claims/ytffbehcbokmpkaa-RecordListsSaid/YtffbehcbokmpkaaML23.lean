/-
  What the reference's Of of layer 12 answers.
-/
import Derived.Test.YtffbehcbokmpkaaML22
namespace Go.Proofs.Ytffbehcbokmpkaa
open Go.RowKit

end Go.Proofs.Ytffbehcbokmpkaa
