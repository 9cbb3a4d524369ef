/-
  Records in memory: their cells; rows of one's own that are changed in place; how two records' names are held against each other.
-/
import Derived.Test.YtiognhmjadiooaaMV06
import Derived.Test.YtiognhmjadiooaaMV04
import Derived.Deep.MidRow
import Derived.Deep.Cut
import Derived.Deep.CutRange
namespace Go.Proofs.Ytiognhmjadiooaa
open Go.RowKit

/-- a record -/
structure Rc where
  id : Int
  ms : Int
  pp : Int
  mt : Int
  cl : Bool
  ly : Int
  x0 : Int
  x1 : Int
  x2 : Int
  x3 : Int
  x4 : Int
  x5 : Int
def cRc (r : Rc) : List Value := [.int .i64 r.id, .int .i64 r.ms, .int .i64 r.pp, .int .i64 r.mt, .bool r.cl, .int .i64 r.ly, .int .i64 r.x0, .int .i64 r.x1, .int .i64 r.x2, .int .i64 r.x3, .int .i64 r.x4, .int .i64 r.x5]
def zRc : Rc := ⟨0, 0, 0, 0, false, 0, 0, 0, 0, 0, 0, 0⟩
theorem cRc_len (r : Rc) : (cRc r).length = 12 := rfl
theorem cRc_one (r : Rc) : ∀ u ∈ cRc r, u.oneCell' = true := fun u hu => by
  unfold cRc at hu
  simp only [List.mem_cons, List.not_mem_nil, or_false] at hu
  rcases hu with h | h | h | h | h | h | h | h | h | h | h | h <;> (rw [h]; rfl)
/-! ### rows of one's own, changed in place -/
section
variable {α : Type} {k : Nat} {c : α → List Value} {t : TypeId} {w w' : World} {g : Nat} {X : List α}
def MR (k : Nat) (c : α → List Value) (t : TypeId) (w : World) (g : Nat) (X : List α) : Prop := ∃ cur : List Value, Blk w g t cur.toArray ∧ X.length * k ≤ cur.length ∧ cur.take (X.length * k) = X.flatMap c
theorem MR.lt (h : MR k c t w g X) : g < w.heap.size := h.elim fun _ q => q.1.lt
theorem MR.range (hc : ∀ x, (c x).length = k) (h : MR k c t w g X) {i : Nat} {x : α} (hi : X[i]? = some x) : w.rangeAt g (i * k) (c x) := by
  obtain ⟨cur, hb, hl, ht⟩ := h
  have hlt : i < X.length := (List.getElem?_eq_some_iff.1 hi).1
  have h2 : (i + 1) * k ≤ X.length * k := Nat.mul_le_mul_right _ hlt
  rw [Nat.add_mul] at h2
  have h1 := blk_range hb (i * k) k
  rw [← flatx_at hc X i x hi, ← ht, List.drop_take, List.take_take, Nat.min_eq_left (by omega)]
  exact h1
end
end Go.Proofs.Ytiognhmjadiooaa
