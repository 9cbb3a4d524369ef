/-
  What the reference's Remove and Insert of layer 12 answer.
-/
import Derived.Test.YtffbehcbokmpkaaMT20
namespace Go.Proofs.Ytffbehcbokmpkaa
open Go.RowKit

/-! ### Insert -/
end Go.Proofs.Ytffbehcbokmpkaa
