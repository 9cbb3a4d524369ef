/-
  ScenePlays answers true for every two numbers and every row of acts: each act's answer on a scene of any room, and behind it all entities, their parts, parents and nodes, who changed and who went, are as the document says; and so are the answers of no scene. No conditions.
-/
import Derived.Test.YtkondkajpmafkaaGreatMP51
namespace Go.Proofs.YtkondkajpmafkaaGreat
theorem scenePlays_holds : Rows.ScenePlaysSaid := scenePlays.over xc_holds xn_holds
#print axioms scenePlays_holds
end Go.Proofs.YtkondkajpmafkaaGreat
