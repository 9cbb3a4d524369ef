/- Lemmas. -/
import Derived.Test.YtlibdcmcbinfnaaGreatMA13
set_option maxHeartbeats 100000000
set_option maxRecDepth 1000000
namespace Go.Proofs.YtlibdcmcbinfnaaGreat
open _root_.Go.Proofs.Tryz List Nat
open Go.RowKit
theorem Fr.two{a b d:World}{F F':Nat->Prop}(h:Fr a b F)(h':Fr b d F')(hn:∀x,F' x->F x∨a.heap.size<=x):Fr a d F:=
 ⟨h'.1.trans h.1,h'.2.1.trans h.2.1,h'.2.2.1.trans h.2.2.1,Nat.le_trans h.2.2.2.1 h'.2.2.2.1,λx hx hf=>(h'.2.2.2.2 x (Nat.lt_of_lt_of_le hx h.2.2.2.1) (λc=>(hn x c).elim (λd=>hf d) (λd=>om))).trans (h.2.2.2.2 x hx hf)⟩
end Go.Proofs.YtlibdcmcbinfnaaGreat
