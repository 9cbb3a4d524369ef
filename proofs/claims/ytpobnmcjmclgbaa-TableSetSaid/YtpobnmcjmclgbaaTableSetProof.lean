/-
  TableSet answers true for every set and every row of acts: behind them each name that was added, and not cut since, is there, once, with the parts that were put last, and no other one is. No conditions.
-/
import Derived.Test.YtpobnmcjmclgbaaTabG
import Derived.Test.YtpobnmcjmclgbaaTapM
namespace Go.Proofs.Ytpobnmcjmclgbaa
theorem tableSet_holds : Rows.TableSetSaid := tableSet.over tc_holds
#print axioms tableSet_holds
end Go.Proofs.Ytpobnmcjmclgbaa
