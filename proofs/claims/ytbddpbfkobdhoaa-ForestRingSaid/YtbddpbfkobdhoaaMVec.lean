/-
  14 texts in one file, each with its own heading.
-/
import Derived.Test.YtbddpbfkobdhoaaMFix
import Derived.LoopN
import Derived.Laws.OwnMore
import Derived.Deep.Draws
import Derived.Laws.Rows
import Derived.Deep.RegionHeld3
import Derived.Deep.OwnRows
import Derived.Maps.AppendAt
import Derived.Deep.QuietTactic
import Derived.BigQuiet
import Derived.WalkKit
import Derived.ProofKit
import Derived.OpenShut
import Derived.Deep.Slices
import Derived.Laws.IdiomArrays
/-
  What package vec builds of what a closure answers at each place: build returns what its plain Lean function says, and leaves all memory that was there as it was.
-/
namespace Go.Proofs.Ytbddpbfkobdhoaa
open Go.RowKit

/-- block g holds just the cells cs, of type t, none of them frozen -/
def Blk (w : World) (g : Nat) (t : TypeId) (cs : Array Value) : Prop := w.heap[g]? = some (.cells cs t (0, 0))

/-- a world that has the same in block g keeps it -/
theorem Blk.same {w w' : World} {g : Nat} {t : TypeId} {cs : Array Value} (h : Blk w g t cs) (e : w'.heap[g]? = w.heap[g]?) : Blk w' g t cs := by
  unfold Blk at *
  rw [e, h]
theorem Blk.lt {w : World} {g : Nat} {t : TypeId} {cs : Array Value} (h : Blk w g t cs) : g < w.heap.size := (Array.getElem?_eq_some_iff.1 h).1
theorem Blk.cell {w : World} {g : Nat} {t : TypeId} {cs : Array Value} (h : Blk w g t cs) (i : Nat) : w.cell? ⟨g, i, none⟩ = cs[i]? := by
  unfold Blk at h
  simp [World.cell?, h]
theorem Blk.frozen {w : World} {g : Nat} {t : TypeId} {cs : Array Value} (h : Blk w g t cs) (i : Nat) : w.frozen? ⟨g, i, none⟩ = false := by
  unfold Blk at h
  simp [World.frozen?, h]
/-- the block that was laid last -/
theorem Blk.new (w : World) (t : TypeId) (cs : Array Value) : Blk (w.alloc (.cells cs t)) w.heap.size t cs := heap_alloc_new w (.cells cs t)
theorem Blk.keep {w w' : World} {g : Nat} {t : TypeId} {cs : Array Value} (h : Blk w g t cs) (hb : Below w.heap.size w w') : Blk w' g t cs := h.same (hb.block g h.lt)
theorem Blk.alloc {w : World} {g : Nat} {t : TypeId} {cs : Array Value} (h : Blk w g t cs) (o : Obj) : Blk (w.alloc o) g t cs := h.keep (alloc_below w o)
/-- a store into it, and one elsewhere -/
theorem Blk.set_ {w : World} {g : Nat} {t : TypeId} {cs : Array Value} (h : Blk w g t cs) (i : Nat) (u : Value) : Blk (w.setCell ⟨g, i, none⟩ u) g t (cs.setIfInBounds i u) := by
  unfold Blk at *
  simp [World.setCell, Array.getElem?_modify, h]
theorem Blk.far {w : World} {g : Nat} {t : TypeId} {cs : Array Value} (h : Blk w g t cs) {p : Addr} (hp : g ≠ p.block) (u : Value) : Blk (w.setCell p u) g t cs := by
  refine h.same ?_
  simp [World.setCell, Array.getElem?_modify, Ne.symm hp]
end Go.Proofs.Ytbddpbfkobdhoaa
/-
  Slices of vectors as lists; whether vectors may be, by package vec and by its reference.
-/
namespace Go.Proofs.Ytbddpbfkobdhoaa
open Go.RowKit

abbrev V3 := Int × Int × Int
def ok3 (x y z : Int) : Bool := rightB [x, y, z]
def okV (v : V3) : Bool := ok3 v.1 v.2.1 v.2.2
def rightV (vs : List V3) : Bool := vs.all okV
def zeroV : V3 := (0, 0, 0)

theorem cell_lt {w : World} {x : Addr} {v : Value} (h : w.cell? x = some v) : x.block < w.heap.size := by
  by_cases hb : x.block < w.heap.size
  · exact hb
  · have e : w.heap[x.block]? = none := Array.getElem?_eq_none (by omega)
    simp [World.cell?, e] at h

/-- a cell that was there is there in every later world -/
theorem cell_keep {w w' : World} {x : Addr} {v : Value} (h : w.cell? x = some v) (hb : Below w.heap.size w w') : w'.cell? x = some v := by
  rw [hb.cell (cell_lt h)]; exact h

theorem row_keep {w w' : World} {a : Option Addr} {len : Nat} {zs : List Int} (h : Row w a len zs) (hb : Below w.heap.size w w') : Row w' a len zs := by
  obtain ⟨h1, h2, h3⟩ := h
  refine ⟨h1, h2, ?_⟩
  rcases h3 with h3 | ⟨b, off, e, hc⟩
  · exact Or.inl h3
  · exact Or.inr ⟨b, off, e, fun i hi => cell_keep (hc i hi) hb⟩

/-- a slice of vectors whose elements are 'vs' -/
def VRow (w : World) (a : Option Addr) (len : Nat) (vs : List V3) : Prop :=
  vs.length = len ∧ len ≤ 9223372036854775807 ∧ (len = 0 ∨ ∃ b off, a = some ⟨b, off, none⟩ ∧ ∀ i, i < len →
    w.cell? ⟨b, off + i * 3, none⟩ = some (.int .i64 (vs.getD i zeroV).1) ∧ w.cell? ⟨b, off + i * 3 + 1, none⟩ = some (.int .i64 (vs.getD i zeroV).2.1) ∧ w.cell? ⟨b, off + i * 3 + 2, none⟩ = some (.int .i64 (vs.getD i zeroV).2.2))

theorem VRow.at_ {w : World} {a : Option Addr} {len k : Nat} {vs : List V3} (h : VRow w a len vs) (hk : k < len) :
    ∃ b off x y z, a = some ⟨b, off, none⟩ ∧ vs[k]? = some (x, y, z) ∧ w.cell? ⟨b, off + k * 3, none⟩ = some (.int .i64 x) ∧ w.cell? ⟨b, off + k * 3 + 1, none⟩ = some (.int .i64 y) ∧ w.cell? ⟨b, off + k * 3 + 2, none⟩ = some (.int .i64 z) := by
  obtain ⟨h1, h2, h3⟩ := h
  rcases h3 with h3 | ⟨b, off, rfl, hc⟩
  · omega
  · have hk' : k < vs.length := by omega
    obtain ⟨c0, c1, c2⟩ := hc k hk
    have e : vs.getD k zeroV = vs[k] := by simp [List.getD, List.getElem?_eq_getElem hk']
    rw [e] at c0 c1 c2
    exact ⟨b, off, _, _, _, rfl, List.getElem?_eq_getElem hk', c0, c1, c2⟩

end Go.Proofs.Ytbddpbfkobdhoaa
/-
  What package vec's closures answer at a place.
-/
namespace Go.Proofs.Ytbddpbfkobdhoaa
open Go.RowKit

end Go.Proofs.Ytbddpbfkobdhoaa
/-
  The closures of vec.Sub and vec.Add: what they answer at a place; the numbers that vectors have at a place.
-/
namespace Go.Proofs.Ytbddpbfkobdhoaa
open Go.RowKit

theorem Blk.drew {w : World} {g : Nat} {t : TypeId} {cs : Array Value} (h : Blk w g t cs) : Blk w.drew g t cs := h

theorem World.rowIs.keep {w w' : World} {b : Nat} {t : TypeId} {n : Nat} {f : Nat → Value} (h : w.rowIs b t n f) (hb : Below w.heap.size w w') : w'.rowIs b t n f := h.of_block (hb.block b h.lt)

end Go.Proofs.Ytbddpbfkobdhoaa
/-
  What package vec's Of, Add, Sub, Scale and Dot answer.
-/
namespace Go.Proofs.Ytbddpbfkobdhoaa
open Go.RowKit

end Go.Proofs.Ytbddpbfkobdhoaa
/-
  What package vec's Sub, Scale and Dot answer.
-/
namespace Go.Proofs.Ytbddpbfkobdhoaa
open Go.RowKit

end Go.Proofs.Ytbddpbfkobdhoaa
/-
  What package vec's Least and Greatest answer.
-/
namespace Go.Proofs.Ytbddpbfkobdhoaa
open Go.RowKit

end Go.Proofs.Ytbddpbfkobdhoaa
/-
  The laws' own live question of layer 2 answers true.
-/
namespace Go.Proofs.Ytbddpbfkobdhoaa
open Go.RowKit

end Go.Proofs.Ytbddpbfkobdhoaa
/-
  What the reference of layer 2 answers: One, Right and Add.
-/
namespace Go.Proofs.Ytbddpbfkobdhoaa
open Go.RowKit

/-! a list of numbers that the call itself appends -/
end Go.Proofs.Ytbddpbfkobdhoaa
/-
  What the reference's Add of layer 2 answers.
-/
namespace Go.Proofs.Ytbddpbfkobdhoaa
open Go.RowKit

end Go.Proofs.Ytbddpbfkobdhoaa
/-
  What the reference's Sub, Scale and Dot of layer 2 answer.
-/
namespace Go.Proofs.Ytbddpbfkobdhoaa
open Go.RowKit

theorem Blk.drewN {w : World} {g : Nat} {t : TypeId} {cs : Array Value} (h : Blk w g t cs) (n : Nat) : Blk (w.drewN n) g t cs := h
end Go.Proofs.Ytbddpbfkobdhoaa
/-
  What the reference's Scale and Dot of layer 2 answer.
-/
namespace Go.Proofs.Ytbddpbfkobdhoaa
open Go.RowKit

end Go.Proofs.Ytbddpbfkobdhoaa
/-
  What the reference's Edge of layer 2 answers.
-/
namespace Go.Proofs.Ytbddpbfkobdhoaa
open Go.RowKit

end Go.Proofs.Ytbddpbfkobdhoaa
/-
  Arguments that are vectors, opened to their numbers.
-/
namespace Go.Proofs.Ytbddpbfkobdhoaa
open Go.ChangeShapes Go.WideShapes Go.ChangeAt Go.RowKit Go.Deep

section
variable {H : Type} {enc : TypeId × Value → H} {w : World} {base : Nat} {spare : Nat → Bool} {held : Bool}

end
end Go.Proofs.Ytbddpbfkobdhoaa
