/-
  FlowPlays answers true for all acts: each act's answer, and behind it all names, all states and how many were touched, are those of the document's flow; a nil flow answers as the document says. No conditions.
-/
import Derived.Test.YtkpaiedlpdjaeaaGreatMFrp
import Derived.Test.YtkpaiedlpdjaeaaGreatMLlk
namespace Go.Proofs.YtkpaiedlpdjaeaaGreat
theorem flowPlays_holds : Rows.FlowPlaysSaid := flowPlays.over fwc_holds lkb_holds fwn_holds
#print axioms flowPlays_holds
end Go.Proofs.YtkpaiedlpdjaeaaGreat
