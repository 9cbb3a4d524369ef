/-
  What package vec's closures answer at a place.
-/
import Derived.Test.YtiniflddgnbngaaVecB
import Derived.Deep.RegionHeld3
namespace Go.Proofs.Ytiniflddgnbngaa
open Go.RowKit

theorem bdrew {w w1 : World} (h : Below w.drew.heap.size w.drew w1) : Below w.heap.size w w1 := ⟨h.os, h.tape, h.output, h.size, h.block⟩
theorem cell_keepD {w w' : World} {x : Addr} {v : Value} (hb : Below w.drew.heap.size w.drew w') (h : w.cell? x = some v) : w'.cell? x = some v := cell_keep h (bdrew hb)

end Go.Proofs.Ytiniflddgnbngaa
