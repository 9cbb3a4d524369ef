/-
  What the reference's Scale and Dot of layer 2 answer.
-/
import Derived.Test.YtiniflddgnbngaaVecJ
namespace Go.Proofs.Ytiniflddgnbngaa
open Go.RowKit

theorem scale_all {x0 x1 x2 n : Int} (h : ok3 x0 x1 x2 = true) : vscaleE x0 x1 x2 n = first3 (mulE x0 n) (mulE x1 n) (mulE x2 n) := by
  by_cases hn : okB n = true
  · exact vscaleE_yes (by rw [h, hn]; rfl)
  · have hn' : okB n = false := by simpa using hn
    rw [vscaleE_no (by rw [hn', Bool.and_false])]
    have e : mulE x0 n = 1 := by unfold mulE; rw [hn', Bool.and_false]; rfl
    unfold first3
    rw [if_neg (by rw [e]; decide), e]

def mulK (X : V3) (n : Int) (k : Nat) : Int := mulV (compK k X) n
def mulEK (X : V3) (n : Int) (k : Nat) : Int := mulE (compK k X) n
def prdK (X Y : V3) (k : Nat) : Int := mulV (compK k X) (compK k Y)
def prdEK (X Y : V3) (k : Nat) : Int := mulE (compK k X) (compK k Y)

theorem prod_list (X Y : V3) {k : Nat} (hk : k < 3) : [prdK X Y 0, prdK X Y 1, prdK X Y 2].take (k + 1) = [prdK X Y 0, prdK X Y 1, prdK X Y 2].take k ++ [prdK X Y k] := by
  obtain rfl | rfl | rfl : k = 0 ∨ k = 1 ∨ k = 2 := by omega
  · rfl
  · rfl
  · rfl

end Go.Proofs.Ytiniflddgnbngaa
