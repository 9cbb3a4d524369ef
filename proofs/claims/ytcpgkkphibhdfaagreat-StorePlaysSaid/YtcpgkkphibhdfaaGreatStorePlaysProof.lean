/-
  StorePlays answers true for every two numbers, every row of acts and every two sets: each act's answer, and behind it all entities, their parts, what the queries tell, who changed and who went, are as the document says; and so are the answers of no store. No conditions.
-/
import Derived.Test.YtcpgkkphibhdfaaGreatMStz
import Derived.Test.YtcpgkkphibhdfaaGreatLstO
namespace Go.Proofs.YtcpgkkphibhdfaaGreat
theorem storePlays_holds : Rows.StorePlaysSaid := storePlays.over sc_holds sn_holds
#print axioms storePlays_holds
end Go.Proofs.YtcpgkkphibhdfaaGreat
