/-
  ForestRing answers true for all acts and any names: behind the acts nobody under the names is above oneself; who is under the names is one of them, or has one of them above, and is there once; each name, and each child of one that is there, is there. No conditions.
-/
import Derived.Test.YtbddpbfkobdhoaaForK
import Derived.Test.YtbddpbfkobdhoaaLfoK
namespace Go.Proofs.Ytbddpbfkobdhoaa
theorem forestRing_holds : Rows.ForestRingSaid := forestRing.over fc_holds
#print axioms forestRing_holds
end Go.Proofs.Ytbddpbfkobdhoaa
