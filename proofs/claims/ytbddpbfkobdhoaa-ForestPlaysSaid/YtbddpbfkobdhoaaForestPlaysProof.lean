/-
  ForestPlays answers true for all acts, any name and any names: each act's answer, and behind it the name's parent, children, who is above, how deep it is, and who is under the names, are those of the document's forest; a nil forest answers as the document says. No conditions.
-/
import Derived.Test.YtbddpbfkobdhoaaForK
import Derived.Test.YtbddpbfkobdhoaaLfoK
namespace Go.Proofs.Ytbddpbfkobdhoaa
theorem forestPlays_holds : Rows.ForestPlaysSaid := forestPlays.over fc_holds fn_holds
#print axioms forestPlays_holds
end Go.Proofs.Ytbddpbfkobdhoaa
