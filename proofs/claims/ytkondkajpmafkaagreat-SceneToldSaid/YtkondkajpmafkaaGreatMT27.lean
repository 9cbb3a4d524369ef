/-
  4 texts in one file, each with its own heading.
-/
import Derived.Test.YtkondkajpmafkaaGreatMT26
import Derived.Test.YtkondkajpmafkaaGreatMT02
/-
  The reference's forest: what its Free, Set, Children and Drop of layer 9 answer.
-/
namespace Go.Proofs.YtkondkajpmafkaaGreat
open Go.RowKit

structure Nd where
  id : Int
  par : Int
  pl : Nat → Int
  hid : Bool
instance : Inhabited Nd := ⟨⟨0, 0, fun _ => 0, false⟩⟩
structure Stt where
  id : Int
  wo : Nat → Int
  sh : Bool
instance : Inhabited Stt := ⟨⟨0, fun _ => 0, false⟩⟩
def elF {α : Type} (f : α → Int) (L : List α) (x : Int) : Option α := L.find? (fun n => f n == x)
def hangs (L : List Nd) (x : Int) : Int := match elF Nd.id L x with
  | none => -1
  | some n => if n.par < 0 ∨ (elF Nd.id L n.par).isNone = true then -1 else n.par
structure FD where
  L : List Nd
  dirty : List Int
  begun : Bool
  sts : List Stt
  steps : Nat
def namesN (L : List Nd) : List Int := sortI (L.map Nd.id)
def treesN (L : List Nd) : FT := L.filterMap (fun n => if 0 ≤ hangs L n.id then some (n.id, hangs L n.id) else none)
def dirtyN (D : FD) : List Int := if D.begun then D.dirty.filter (fun x => decide (x ∈ namesN D.L)) else namesN D.L
def touchN (D : FD) : List Int := undL (treesN D.L) (dirtyN D)
structure Acc where
  out : List Stt
  least : Int
  e : Int
section
variable {α : Type} {f : α → Int} {L : List α} {x : Int} {n : α}
end
end Go.Proofs.YtkondkajpmafkaaGreat
