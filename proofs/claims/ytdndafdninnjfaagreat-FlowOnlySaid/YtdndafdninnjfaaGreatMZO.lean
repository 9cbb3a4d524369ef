/-
  FlowOnly answers true for all acts, nodes and names: behind a run without an error, and then nodes put and names dropped, a run touches only who was put, who hung on one that was dropped, and who hangs on these, each once; the others' states are what they were. No conditions.
-/
import Derived.Test.YtdndafdninnjfaaGreatMFrp
import Derived.Test.YtdndafdninnjfaaGreatMLlk
namespace Go.Proofs.YtdndafdninnjfaaGreat
theorem flowOnly_holds : Rows.FlowOnlySaid := flowOnly.over fwc_holds lkb_holds lrc_holds
#print axioms flowOnly_holds
end Go.Proofs.YtdndafdninnjfaaGreat
