/-
  What package affine's Scale, Same, Move and Turn answer, and the reference's.
-/
import Derived.Test.YtiniflddgnbngaaAffA
namespace Go.Proofs.Ytiniflddgnbngaa
open Go.RowKit

def diagM (V : Nat → Int) (k : Nat) : Int := if k = 0 then V 0 else if k = 5 then V 1 else if k = 10 then V 2 else 0
def sameM : Nat → Int := diagM (fun _ => 65536)
def moveM (V : Nat → Int) (k : Nat) : Int := if k = 3 then V 0 else if k = 7 then V 1 else if k = 11 then V 2 else sameM k
/-- a quarter round axis a -/
def turnM (a : Int) (k : Nat) : Int :=
  if a = 0 then [65536, 0, 0, 0, 0, 0, -65536, 0, 0, 65536, 0, 0].getD k 0
  else if a = 1 then [0, 0, 65536, 0, 0, 65536, 0, 0, -65536, 0, 0, 0].getD k 0
  else [0, -65536, 0, 0, 65536, 0, 0, 0, 0, 0, 65536, 0].getD k 0

/-- what is known of a world, in the place of the world -/
theorem fin {Q : World → Prop} {W : World} (P : World → Prop) (h : P W) (k : ∀ W', P W' → Q W') : Q W := k W h
theorem bdrewn {n : Nat} {w a : World} (h : Below n w a) : Below n w a.drew := ⟨h.os, h.tape, h.output, h.size, h.block⟩

end Go.Proofs.Ytiniflddgnbngaa
