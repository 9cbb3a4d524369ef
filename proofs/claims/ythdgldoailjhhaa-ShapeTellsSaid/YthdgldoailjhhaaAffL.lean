/-
  What the reference's Mul of layer 3 answers.
-/
import Derived.Test.YthdgldoailjhhaaAffK
namespace Go.Proofs.Ythdgldoailjhhaa
open Go.RowKit

/-- a product that may be may be -/
theorem addV_ok (zs : List Int) : okB (addV zs) = true := by
  unfold addV
  by_cases h : addOk zs = true
  · rw [if_pos h]
    unfold fitV
    by_cases h' : okB zs.sum = true
    · rw [if_pos h']; exact h'
    · rw [if_neg h']; decide
  · rw [if_neg h]; decide
theorem alV_ok (M : Nat → Int) (r : Nat) (V : Nat → Int) (l : Int) : okB (alV M r V l) = true := by
  unfold alV
  by_cases h : alF M r V = 0
  · rw [if_pos h]; exact addV_ok _
  · rw [if_neg h]; decide
theorem prodM_ok (A B : Nat → Int) : okM (prodM A B) = true := okM_of fun k _ => by
  unfold prodM gate
  by_cases h : prodE2 A B = 0
  · rw [if_pos h]; exact alV_ok _ _ _ _
  · rw [if_neg h]; decide
theorem rightM_at {Ms : List (Nat → Int)} {k : Nat} {M : Nat → Int} (hr : rightM Ms = true) (h : Ms[k]? = some M) : okM M = true := by
  unfold rightM at hr
  rw [List.all_eq_true] at hr
  exact hr M (List.mem_of_getElem? h)

theorem MRow.range {w : World} {a : Option Addr} {len k : Nat} {Ms : List (Nat → Int)} (h : MRow w a len Ms) (hk : k < len) :
    ∃ b off M, a = some ⟨b, off, none⟩ ∧ Ms[k]? = some M ∧ w.rangeAt b (off + k * 12) [.int .i64 (M 0), .int .i64 (M 1), .int .i64 (M 2), .int .i64 (M 3), .int .i64 (M 4), .int .i64 (M 5), .int .i64 (M 6), .int .i64 (M 7), .int .i64 (M 8), .int .i64 (M 9), .int .i64 (M 10), .int .i64 (M 11)] := by
  obtain ⟨h1, h2, h3⟩ := h
  rcases h3 with h3 | ⟨b, off, rfl, hc⟩
  · omega
  · have hk' : k < Ms.length := by omega
    have e : Ms.getD k zeroM = Ms[k] := by simp [List.getD, List.getElem?_eq_getElem hk']
    have c := hc k hk
    rw [e] at c
    refine ⟨b, off, _, rfl, List.getElem?_eq_getElem hk', fun j v hv => ?_⟩
    have hj : j < 12 := by have := (List.getElem?_eq_some_iff.1 hv).1; simpa using this
    rw [c j hj]
    rcases lt12 hj with rfl | rfl | rfl | rfl | rfl | rfl | rfl | rfl | rfl | rfl | rfl | rfl <;> simpa using hv
theorem range_keep {w w' : World} {b o : Nat} {cs : List Value} (h : w.rangeAt b o cs) (hb : Below w.heap.size w w') : w'.rangeAt b o cs := fun j v hv => cell_keep (h j v hv) hb
theorem range_drew {w : World} {b o : Nat} {cs : List Value} (h : w.rangeAt b o cs) : w.drew.rangeAt b o cs := fun j v hv => h j v hv

theorem range_far {w : World} {b o g i : Nat} {cs : List Value} {u : Value} (h : w.rangeAt b o cs) (hne : b ≠ g) : (w.setCell ⟨g, i, none⟩ u).rangeAt b o cs := fun j v hv => by
  rw [World.cell?_setCell_far _ _ _ _ (Ne.symm hne)]
  exact h j v hv
theorem range_far12 {w : World} {b o g : Nat} {cs : List Value} {u0 u1 u2 u3 u4 u5 u6 u7 u8 u9 u10 u11 : Value} (h : w.rangeAt b o cs) (hne : b ≠ g) : ((((((((((((w.setCell ⟨g, 0, none⟩ u0).setCell ⟨g, 1, none⟩ u1).setCell ⟨g, 2, none⟩ u2).setCell ⟨g, 3, none⟩ u3).setCell ⟨g, 4, none⟩ u4).setCell ⟨g, 5, none⟩ u5).setCell ⟨g, 6, none⟩ u6).setCell ⟨g, 7, none⟩ u7).setCell ⟨g, 8, none⟩ u8).setCell ⟨g, 9, none⟩ u9).setCell ⟨g, 10, none⟩ u10).setCell ⟨g, 11, none⟩ u11).rangeAt b o cs :=
  range_far (range_far (range_far (range_far (range_far (range_far (range_far (range_far (range_far (range_far (range_far (range_far h hne) hne) hne) hne) hne) hne) hne) hne) hne) hne) hne) hne

end Go.Proofs.Ythdgldoailjhhaa
