/-
  The closures of vec.Sub and vec.Add: what they answer at a place; the numbers that vectors have at a place.
-/
import Derived.Test.YtiniflddgnbngaaVecC
import Derived.Deep.OwnRows
namespace Go.Proofs.Ytiniflddgnbngaa
open Go.RowKit

theorem sub_sum {x y : Int} (hx : okB x = true) (hy : okB y = true) : addV [x, -1 - y, 1] = fitV (x - y) ∧ addE [x, -1 - y, 1] = fitE (x - y) := by
  obtain ⟨y1, y2⟩ := okB_iff.1 hy
  have h : addOk [x, -1 - y, 1] = true := by
    unfold addOk rightB
    simp [hx, okB_yes (x := -1 - y) (by omega) (by omega), show okB 1 = true by decide]
  have e : [x, -1 - y, 1].sum = x - y := by simp; omega
  rw [addV_yes h, addE_yes h, e]
  exact ⟨rfl, rfl⟩

def col0 (vs : List V3) : List Int := vs.map (·.1)
def col1 (vs : List V3) : List Int := vs.map (·.2.1)
def col2 (vs : List V3) : List Int := vs.map (·.2.2)

theorem Blk.drew {w : World} {g : Nat} {t : TypeId} {cs : Array Value} (h : Blk w g t cs) : Blk w.drew g t cs := h

theorem World.rowIs.keep {w w' : World} {b : Nat} {t : TypeId} {n : Nat} {f : Nat → Value} (h : w.rowIs b t n f) (hb : Below w.heap.size w w') : w'.rowIs b t n f := h.of_block (hb.block b h.lt)

theorem col_step {zs : List Int} {k : Nat} {x : Int} (h : zs.getD k 0 = x) (j : Nat) :
    (if j = k then Value.int .i64 x else if j < k then .int .i64 (zs.getD j 0) else .int .i64 0) = if j < k + 1 then .int .i64 (zs.getD j 0) else .int .i64 0 := by
  by_cases e : j = k
  · subst e; rw [if_pos rfl, if_pos (by omega), h]
  · rw [if_neg e]
    by_cases e2 : j < k
    · rw [if_pos e2, if_pos (by omega)]
    · rw [if_neg e2, if_neg (by omega)]

theorem row_of_is {w : World} {b : Nat} {t : TypeId} {n : Nat} {zs : List Int} (hl : zs.length = n) (hn : n ≤ 9223372036854775807) (h : w.rowIs b t n (fun j => .int .i64 (zs.getD j 0))) : Row w (some ⟨b, 0, none⟩) n zs :=
  ⟨hl, hn, Or.inr ⟨b, 0, rfl, fun i hi => by rw [Nat.zero_add]; exact h.cell hi⟩⟩

theorem col0_at {vs : List V3} {j : Nat} {x y z : Int} (h : vs[j]? = some (x, y, z)) : (col0 vs).getD j 0 = x := by
  unfold col0
  simp [List.getD, h]

theorem col0_len (vs : List V3) : (col0 vs).length = vs.length := List.length_map ..

theorem col1_at {vs : List V3} {j : Nat} {x y z : Int} (h : vs[j]? = some (x, y, z)) : (col1 vs).getD j 0 = y := by
  unfold col1
  simp [List.getD, h]

theorem col1_len (vs : List V3) : (col1 vs).length = vs.length := List.length_map ..

theorem col2_at {vs : List V3} {j : Nat} {x y z : Int} (h : vs[j]? = some (x, y, z)) : (col2 vs).getD j 0 = z := by
  unfold col2
  simp [List.getD, h]

theorem col2_len (vs : List V3) : (col2 vs).length = vs.length := List.length_map ..

end Go.Proofs.Ytiniflddgnbngaa
