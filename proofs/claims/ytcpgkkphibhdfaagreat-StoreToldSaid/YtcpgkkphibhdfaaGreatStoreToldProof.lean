/-
  StoreTold answers true for every row of acts and every tick: behind them, whoever has other parts than at the tick, or wasn't there, is among those that changed since; whoever was there, and isn't, is among those that went. No conditions.
-/
import Derived.Test.YtcpgkkphibhdfaaGreatStoG
import Derived.Test.YtcpgkkphibhdfaaGreatLstN
namespace Go.Proofs.YtcpgkkphibhdfaaGreat
theorem storeTold_holds : Rows.StoreToldSaid := storeTold.over sc_holds
#print axioms storeTold_holds
end Go.Proofs.YtcpgkkphibhdfaaGreat
