/-
  What the reference's Right of layer 6 answers.
-/
import Derived.Test.YtkondkajpmafkaaGreatMT04
namespace Go.Proofs.YtkondkajpmafkaaGreat
open Go.RowKit

def zI : Nat → Int := fun _ => 0
/-- of a kind: are its values nothing? -/
def zkB (M : Nat → Int) (m : Int) (B : Nat → Int) (p a : Int) (c : Bool) (l : Int) (k : Nat) : Bool :=
  if k = 0 then eq12 zI M else if k = 1 then (0 == m) && eq6 zI B else if k = 2 then (0 == p) && (0 == a) && (false == c) else if k = 3 then (0 == l) else true
/-- may kind k be as it is -/
def kindB (h : Int) (M : Nat → Int) (m : Int) (B : Nat → Int) (p a : Int) (c : Bool) (l : Int) (k : Nat) : Bool := hasN h k || zkB M m B p a c l k
def kindsB (h : Int) (M : Nat → Int) (m : Int) (B : Nat → Int) (p a : Int) (c : Bool) (l : Int) : Bool := kindB h M m B p a c l 0 && kindB h M m B p a c l 1 && kindB h M m B p a c l 2 && kindB h M m B p a c l 3 && kindB h M m B p a c l 4
def restB (M : Nat → Int) (m : Int) (B : Nat → Int) (p a : Int) (l : Int) : Bool := okM M && inB m 255 && okBox B && inB p 63 && inB a 255 && inB l 255
def rightP (h : Int) (M : Nat → Int) (m : Int) (B : Nat → Int) (p a : Int) (c : Bool) (l : Int) : Bool := decide (0 ≤ h) && decide (h ≤ 31) && kindsB h M m B p a c l && restB M m B p a l
end Go.Proofs.YtkondkajpmafkaaGreat
