/-
  What the reference of layer 2 answers: One, Right and Add.
-/
import Derived.Test.YtiniflddgnbngaaVecL
import Derived.Maps.AppendAt
namespace Go.Proofs.Ytiniflddgnbngaa
open Go.RowKit

/-! a list of numbers that the call itself appends -/
def compK (k : Nat) (v : V3) : Int := if k = 0 then v.1 else if k = 1 then v.2.1 else v.2.2
def colK (k : Nat) (vs : List V3) : List Int := vs.map (compK k)
theorem colK0 (vs : List V3) : colK 0 vs = col0 vs := rfl
theorem colK1 (vs : List V3) : colK 1 vs = col1 vs := rfl
theorem colK2 (vs : List V3) : colK 2 vs = col2 vs := rfl
theorem VRow.atK {w : World} {a : Option Addr} {len j k : Nat} {vs : List V3} (h : VRow w a len vs) (hj : j < len) (hk : k < 3) :
    ∃ b off x, a = some ⟨b, off, none⟩ ∧ (colK k vs)[j]? = some x ∧ w.cell? ⟨b, off + j * 3 + k, none⟩ = some (.int .i64 x) := by
  obtain ⟨b, off, x, y, z, rfl, hv, c0, c1, c2⟩ := h.at_ hj
  obtain rfl | rfl | rfl : k = 0 ∨ k = 1 ∨ k = 2 := by omega
  · exact ⟨b, off, x, rfl, by simp [colK, hv, compK], c0⟩
  · exact ⟨b, off, y, rfl, by simp [colK, hv, compK], c1⟩
  · exact ⟨b, off, z, rfl, by simp [colK, hv, compK], c2⟩

theorem take_snocI {zs : List Int} {j : Nat} {x : Int} (h : zs[j]? = some x) : zs.take (j + 1) = zs.take j ++ [x] := by rw [List.take_add_one, h]; rfl

/-- the first error of three, place by place -/
theorem first3_at {e : Nat → Int} {k : Nat} (hk : k < 3) (h : ∀ j, j < k → e j = 0) (he : e k ≠ 0) : first3 (e 0) (e 1) (e 2) = e k := by
  unfold first3
  obtain rfl | rfl | rfl : k = 0 ∨ k = 1 ∨ k = 2 := by omega
  · rw [if_neg he]
  · rw [if_pos (h 0 (by omega)), if_neg he]
  · rw [if_pos (h 0 (by omega)), if_pos (h 1 (by omega))]
theorem first3_none {e : Nat → Int} (h : ∀ j, j < 3 → e j = 0) : first3 (e 0) (e 1) (e 2) = 0 := by
  unfold first3
  rw [if_pos (h 0 (by omega)), if_pos (h 1 (by omega)), h 2 (by omega)]

end Go.Proofs.Ytiniflddgnbngaa
