/-
  Slices of vectors as lists; whether vectors may be, by package vec and by its reference.
-/
import Derived.Test.YtiniflddgnbngaaVecA
namespace Go.Proofs.Ytiniflddgnbngaa
open Go.RowKit

abbrev V3 := Int × Int × Int
def ok3 (x y z : Int) : Bool := rightB [x, y, z]
def okV (v : V3) : Bool := ok3 v.1 v.2.1 v.2.2
def rightV (vs : List V3) : Bool := vs.all okV
def zeroV : V3 := (0, 0, 0)

theorem cell_lt {w : World} {x : Addr} {v : Value} (h : w.cell? x = some v) : x.block < w.heap.size := by
  by_cases hb : x.block < w.heap.size
  · exact hb
  · have e : w.heap[x.block]? = none := Array.getElem?_eq_none (by omega)
    simp [World.cell?, e] at h

/-- a cell that was there is there in every later world -/
theorem cell_keep {w w' : World} {x : Addr} {v : Value} (h : w.cell? x = some v) (hb : Below w.heap.size w w') : w'.cell? x = some v := by
  rw [hb.cell (cell_lt h)]; exact h

theorem row_keep {w w' : World} {a : Option Addr} {len : Nat} {zs : List Int} (h : Row w a len zs) (hb : Below w.heap.size w w') : Row w' a len zs := by
  obtain ⟨h1, h2, h3⟩ := h
  refine ⟨h1, h2, ?_⟩
  rcases h3 with h3 | ⟨b, off, e, hc⟩
  · exact Or.inl h3
  · exact Or.inr ⟨b, off, e, fun i hi => cell_keep (hc i hi) hb⟩

/-- a slice of vectors whose elements are 'vs' -/
def VRow (w : World) (a : Option Addr) (len : Nat) (vs : List V3) : Prop :=
  vs.length = len ∧ len ≤ 9223372036854775807 ∧ (len = 0 ∨ ∃ b off, a = some ⟨b, off, none⟩ ∧ ∀ i, i < len →
    w.cell? ⟨b, off + i * 3, none⟩ = some (.int .i64 (vs.getD i zeroV).1) ∧ w.cell? ⟨b, off + i * 3 + 1, none⟩ = some (.int .i64 (vs.getD i zeroV).2.1) ∧ w.cell? ⟨b, off + i * 3 + 2, none⟩ = some (.int .i64 (vs.getD i zeroV).2.2))

theorem vrow_keep {w w' : World} {a : Option Addr} {len : Nat} {vs : List V3} (h : VRow w a len vs) (hb : Below w.heap.size w w') : VRow w' a len vs := by
  obtain ⟨h1, h2, h3⟩ := h
  refine ⟨h1, h2, ?_⟩
  rcases h3 with h3 | ⟨b, off, e, hc⟩
  · exact Or.inl h3
  · exact Or.inr ⟨b, off, e, fun i hi => ⟨cell_keep (hc i hi).1 hb, cell_keep (hc i hi).2.1 hb, cell_keep (hc i hi).2.2 hb⟩⟩

theorem VRow.at_ {w : World} {a : Option Addr} {len k : Nat} {vs : List V3} (h : VRow w a len vs) (hk : k < len) :
    ∃ b off x y z, a = some ⟨b, off, none⟩ ∧ vs[k]? = some (x, y, z) ∧ w.cell? ⟨b, off + k * 3, none⟩ = some (.int .i64 x) ∧ w.cell? ⟨b, off + k * 3 + 1, none⟩ = some (.int .i64 y) ∧ w.cell? ⟨b, off + k * 3 + 2, none⟩ = some (.int .i64 z) := by
  obtain ⟨h1, h2, h3⟩ := h
  rcases h3 with h3 | ⟨b, off, rfl, hc⟩
  · omega
  · have hk' : k < vs.length := by omega
    obtain ⟨c0, c1, c2⟩ := hc k hk
    have e : vs.getD k zeroV = vs[k] := by simp [List.getD, List.getElem?_eq_getElem hk']
    rw [e] at c0 c1 c2
    exact ⟨b, off, _, _, _, rfl, List.getElem?_eq_getElem hk', c0, c1, c2⟩

theorem rightV_succ {vs : List V3} {k : Nat} {x y z : Int} (h : vs[k]? = some (x, y, z)) (hr : rightV (vs.take k) = true) (ho : ok3 x y z = true) : rightV (vs.take (k + 1)) = true := by
  unfold rightV at hr ⊢
  rw [List.take_add_one, List.all_append, hr, h]
  simpa [okV] using ho
theorem rightV_bad {vs : List V3} {k : Nat} {x y z : Int} (h : vs[k]? = some (x, y, z)) (ho : ok3 x y z = false) : rightV vs = false := by
  unfold rightV
  rw [List.all_eq_false]
  exact ⟨(x, y, z), List.mem_of_getElem? h, by simpa [okV] using ho⟩
theorem rightV_all {vs : List V3} {k : Nat} (hr : rightV (vs.take k) = true) (h : vs.length ≤ k) : rightV vs = true := by
  rwa [List.take_of_length_le h] at hr

theorem row3 {w : World} {g : Nat} {t : TypeId} {x y z : Int} (h : Blk w g t #[.int .i64 x, .int .i64 y, .int .i64 z]) : Row w (some ⟨g, 0, none⟩) 3 [x, y, z] := by
  refine ⟨rfl, by omega, Or.inr ⟨_, _, rfl, fun i hi => ?_⟩⟩
  obtain rfl | rfl | rfl : i = 0 ∨ i = 1 ∨ i = 2 := by omega
  · exact h.cell 0
  · exact h.cell 1
  · exact h.cell 2

end Go.Proofs.Ytiniflddgnbngaa
