/-
  What package vec builds of what a closure answers at each place: build returns what its plain Lean function says, and leaves all memory that was there as it was.
-/
import Derived.Test.YtiniflddgnbngaaFixR
import Derived.LoopN
import Derived.Laws.OwnMore
import Derived.Deep.Draws
import Derived.Laws.Rows
namespace Go.Proofs.Ytiniflddgnbngaa
open Go.RowKit

/-- the first error of three -/
def first3 (a b c : Int) : Int := if a = 0 then (if b = 0 then c else b) else a
/-- with an error, zero -/
def gate (e v : Int) : Int := if e = 0 then v else 0

/-- block g holds just the cells cs, of type t, none of them frozen -/
def Blk (w : World) (g : Nat) (t : TypeId) (cs : Array Value) : Prop := w.heap[g]? = some (.cells cs t (0, 0))

/-- a world that has the same in block g keeps it -/
theorem Blk.same {w w' : World} {g : Nat} {t : TypeId} {cs : Array Value} (h : Blk w g t cs) (e : w'.heap[g]? = w.heap[g]?) : Blk w' g t cs := by
  unfold Blk at *
  rw [e, h]
theorem Blk.lt {w : World} {g : Nat} {t : TypeId} {cs : Array Value} (h : Blk w g t cs) : g < w.heap.size := (Array.getElem?_eq_some_iff.1 h).1
theorem Blk.cell {w : World} {g : Nat} {t : TypeId} {cs : Array Value} (h : Blk w g t cs) (i : Nat) : w.cell? ⟨g, i, none⟩ = cs[i]? := by
  unfold Blk at h
  simp [World.cell?, h]
theorem Blk.frozen {w : World} {g : Nat} {t : TypeId} {cs : Array Value} (h : Blk w g t cs) (i : Nat) : w.frozen? ⟨g, i, none⟩ = false := by
  unfold Blk at h
  simp [World.frozen?, h]
/-- the block that was laid last -/
theorem Blk.new (w : World) (t : TypeId) (cs : Array Value) : Blk (w.alloc (.cells cs t)) w.heap.size t cs := heap_alloc_new w (.cells cs t)
theorem Blk.keep {w w' : World} {g : Nat} {t : TypeId} {cs : Array Value} (h : Blk w g t cs) (hb : Below w.heap.size w w') : Blk w' g t cs := h.same (hb.block g h.lt)
theorem Blk.alloc {w : World} {g : Nat} {t : TypeId} {cs : Array Value} (h : Blk w g t cs) (o : Obj) : Blk (w.alloc o) g t cs := h.keep (alloc_below w o)
/-- a store into it, and one elsewhere -/
theorem Blk.set_ {w : World} {g : Nat} {t : TypeId} {cs : Array Value} (h : Blk w g t cs) (i : Nat) (u : Value) : Blk (w.setCell ⟨g, i, none⟩ u) g t (cs.setIfInBounds i u) := by
  unfold Blk at *
  simp [World.setCell, Array.getElem?_modify, h]
theorem Blk.far {w : World} {g : Nat} {t : TypeId} {cs : Array Value} (h : Blk w g t cs) {p : Addr} (hp : g ≠ p.block) (u : Value) : Blk (w.setCell p u) g t cs := by
  refine h.same ?_
  simp [World.setCell, Array.getElem?_modify, Ne.symm hp]
/-- a block of three cells, for the walk -/
theorem blk3 {w : World} {g : Nat} {t : TypeId} {x y z : Value} (h : Blk w g t #[x, y, z]) : w.cell? ⟨g, 0, none⟩ = some x ∧ w.cell? ⟨g, 1, none⟩ = some y ∧ w.cell? ⟨g, 2, none⟩ = some z ∧ w.frozen? ⟨g, 0, none⟩ = false ∧ w.frozen? ⟨g, 1, none⟩ = false ∧ w.frozen? ⟨g, 2, none⟩ = false :=
  ⟨h.cell 0, h.cell 1, h.cell 2, h.frozen 0, h.frozen 1, h.frozen 2⟩

/-- a function with a body of its own, whichever: a call enters it -/
def Enters (F : Nat) : Prop := ∀ args w, (callFunc F args).run Try.prog w = .ok (.enter F args) w
/-- what a closure answers at a place, in every later world -/
def Answers (w : World) (F : Nat) (cap : Array Value) (k : Int) (v e : Int) : Prop :=
  ∀ w', Below w.heap.size w w' → Calls Try.prog F (#[.int .i64 k] ++ cap) w' fun x w'' => x = .returned (.tuple #[.int .i64 v, .int .i64 e]) ∧ Below w'.heap.size w' w''

theorem blkAt {w : World} {g g' : Nat} {t : TypeId} {cs : Array Value} (h : Blk w g t cs) (e : g = g') : Blk w g' t cs := e ▸ h

end Go.Proofs.Ytiniflddgnbngaa
