/-
  2 texts in one file, each with its own heading.
-/
import Derived.Test.YtdndafdninnjfaaGreatMFof
/-
  ForestPlays for any package that answers as the bundles say: the walk.
-/
namespace Go.Proofs.YtdndafdninnjfaaGreat
open Go.RowKit

section
variable {FB : World → Nat → (Nat → Prop) → FT → Prop}
end
end Go.Proofs.YtdndafdninnjfaaGreat
/-
  ForestRing for any package that answers as the bundle says: the walk.
-/
namespace Go.Proofs.YtdndafdninnjfaaGreat
open Go.RowKit

theorem undL_nod {L : FT} (h : WF L) (l : List Int) : (undL L l).Nodup := und_nod h (sort_sorted l [] List.Pairwise.nil)
theorem undL_len {L : FT} (h : WF L) (l : List Int) : (undL L l).length ≤ l.length + L.length := by
  have h1 := und_len h (ns := sortI l) (sort_sorted l [] List.Pairwise.nil)
  have h2 := (sortI_perm l).length_eq
  unfold undL
  omega
theorem nod_take {U : List Int} (h : U.Nodup) {i : Nat} {u : Int} (hu : U[i]? = some u) : u ∉ U.take i := fun hm => by
  obtain ⟨j, hj, e⟩ := List.mem_iff_getElem.1 hm
  rw [List.length_take] at hj
  rw [List.getElem_take] at e
  obtain ⟨hi, e2⟩ := List.getElem?_eq_some_iff.1 hu
  have := List.pairwise_iff_getElem.1 h j i (by omega) hi (by omega)
  exact this (e.trans e2.symm)
theorem row_prefix {w : World} {a : Option Addr} {n i : Nat} {xs : List Int} (h : Row w a n xs) (hi : i ≤ n) : Row w a i (xs.take i) := by
  obtain ⟨h1, h2, h3⟩ := h
  refine ⟨by rw [List.length_take]; omega, by omega, ?_⟩
  rcases h3 with h3 | ⟨b, off, e, hc⟩
  · exact Or.inl (by omega)
  · refine Or.inr ⟨b, off, e, fun q hq => ?_⟩
    rw [hc q (by omega)]
    simp only [List.getD, List.getElem?_take_of_lt hq]
section
variable {FB : World → Nat → (Nat → Prop) → FT → Prop}
end
end Go.Proofs.YtdndafdninnjfaaGreat
