/-
  The laws' own live question of layer 2 answers true.
-/
import Derived.Test.YtiniflddgnbngaaVecG
namespace Go.Proofs.Ytiniflddgnbngaa
open Go.RowKit

theorem vrow3 {w : World} {g : Nat} {t : TypeId} {x0 x1 x2 y0 y1 y2 z0 z1 z2 : Int} (h : Blk w g t #[.int .i64 x0, .int .i64 x1, .int .i64 x2, .int .i64 y0, .int .i64 y1, .int .i64 y2, .int .i64 z0, .int .i64 z1, .int .i64 z2]) :
    VRow w (some ⟨g, 0, none⟩) 3 [(x0, x1, x2), (y0, y1, y2), (z0, z1, z2)] := by
  refine ⟨rfl, by omega, Or.inr ⟨_, _, rfl, fun i hi => ?_⟩⟩
  obtain rfl | rfl | rfl : i = 0 ∨ i = 1 ∨ i = 2 := by omega
  · exact ⟨h.cell 0, h.cell 1, h.cell 2⟩
  · exact ⟨h.cell 3, h.cell 4, h.cell 5⟩
  · exact ⟨h.cell 6, h.cell 7, h.cell 8⟩

def av : List V3 := [(65536, -131072, 196608), (65536, -131072, 196608), (5, 0, 0)]
def al : List V3 := [(65536, -131072, 196608), (131077, -262144, 393216)]
end Go.Proofs.Ytiniflddgnbngaa
