/-
  SceneTold answers true for every row of acts and every tick: behind them, whoever is another node, has other parts than at the tick, or wasn't there, is among those that changed since; whoever was there, and isn't, is among those that went; whoever is above lives, and nobody is above oneself. No conditions.
-/
import Derived.Test.YtkondkajpmafkaaGreatMT52
import Derived.Test.YtkondkajpmafkaaGreatMT49
namespace Go.Proofs.YtkondkajpmafkaaGreat
theorem sceneTold_holds : Rows.SceneToldSaid := sceneTold.over xc_holds
#print axioms sceneTold_holds
end Go.Proofs.YtkondkajpmafkaaGreat
