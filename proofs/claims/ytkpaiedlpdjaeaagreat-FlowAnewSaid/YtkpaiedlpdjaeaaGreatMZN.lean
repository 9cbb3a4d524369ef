/-
  FlowAnew answers true for all acts: behind them a run's error and all states are those of a new flow into which the same nodes are put at once, and that runs; a run behind that touches nobody, if there was no error. No conditions.
-/
import Derived.Test.YtkpaiedlpdjaeaaGreatMFrp
import Derived.Test.YtkpaiedlpdjaeaaGreatMLlk
namespace Go.Proofs.YtkpaiedlpdjaeaaGreat
theorem flowAnew_holds : Rows.FlowAnewSaid := flowAnew.over fwc_holds lkb_holds
#print axioms flowAnew_holds
end Go.Proofs.YtkpaiedlpdjaeaaGreat
