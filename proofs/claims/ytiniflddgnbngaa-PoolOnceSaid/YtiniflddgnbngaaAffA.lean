/-
  Matrices as functions of the place: blocks, rows and slices of them; where a row's number stands; whether matrices may be.
-/
import Derived.Test.YtiniflddgnbngaaVecO
namespace Go.Proofs.Ytiniflddgnbngaa
open Go.RowKit

/-- a block of twelve cells, for the walk -/
theorem blk12 {w : World} {g : Nat} {t : TypeId} {x0 x1 x2 x3 x4 x5 x6 x7 x8 x9 x10 x11 : Value} (h : Blk w g t #[x0, x1, x2, x3, x4, x5, x6, x7, x8, x9, x10, x11]) : w.cell? ⟨g, 0, none⟩ = some x0 ∧ w.cell? ⟨g, 1, none⟩ = some x1 ∧ w.cell? ⟨g, 2, none⟩ = some x2 ∧ w.cell? ⟨g, 3, none⟩ = some x3 ∧ w.cell? ⟨g, 4, none⟩ = some x4 ∧ w.cell? ⟨g, 5, none⟩ = some x5 ∧ w.cell? ⟨g, 6, none⟩ = some x6 ∧ w.cell? ⟨g, 7, none⟩ = some x7 ∧ w.cell? ⟨g, 8, none⟩ = some x8 ∧ w.cell? ⟨g, 9, none⟩ = some x9 ∧ w.cell? ⟨g, 10, none⟩ = some x10 ∧ w.cell? ⟨g, 11, none⟩ = some x11 ∧ w.frozen? ⟨g, 0, none⟩ = false ∧ w.frozen? ⟨g, 1, none⟩ = false ∧ w.frozen? ⟨g, 2, none⟩ = false ∧ w.frozen? ⟨g, 3, none⟩ = false ∧ w.frozen? ⟨g, 4, none⟩ = false ∧ w.frozen? ⟨g, 5, none⟩ = false ∧ w.frozen? ⟨g, 6, none⟩ = false ∧ w.frozen? ⟨g, 7, none⟩ = false ∧ w.frozen? ⟨g, 8, none⟩ = false ∧ w.frozen? ⟨g, 9, none⟩ = false ∧ w.frozen? ⟨g, 10, none⟩ = false ∧ w.frozen? ⟨g, 11, none⟩ = false :=
  ⟨h.cell 0, h.cell 1, h.cell 2, h.cell 3, h.cell 4, h.cell 5, h.cell 6, h.cell 7, h.cell 8, h.cell 9, h.cell 10, h.cell 11, h.frozen 0, h.frozen 1, h.frozen 2, h.frozen 3, h.frozen 4, h.frozen 5, h.frozen 6, h.frozen 7, h.frozen 8, h.frozen 9, h.frozen 10, h.frozen 11⟩
theorem bset12 {w a : World} {g : Nat} {u0 u1 u2 u3 u4 u5 u6 u7 u8 u9 u10 u11 : Value} (h : Below w.heap.size w a) (hg : w.heap.size ≤ g) : Below w.heap.size w ((((((((((((a.setCell ⟨g, 0, none⟩ u0).setCell ⟨g, 1, none⟩ u1).setCell ⟨g, 2, none⟩ u2).setCell ⟨g, 3, none⟩ u3).setCell ⟨g, 4, none⟩ u4).setCell ⟨g, 5, none⟩ u5).setCell ⟨g, 6, none⟩ u6).setCell ⟨g, 7, none⟩ u7).setCell ⟨g, 8, none⟩ u8).setCell ⟨g, 9, none⟩ u9).setCell ⟨g, 10, none⟩ u10).setCell ⟨g, 11, none⟩ u11) := ((((((((((((h.setCell hg _).setCell hg _).setCell hg _).setCell hg _).setCell hg _).setCell hg _).setCell hg _).setCell hg _).setCell hg _).setCell hg _).setCell hg _).setCell hg _)
theorem lt12 {k : Nat} (hk : k < 12) : k = 0 ∨ k = 1 ∨ k = 2 ∨ k = 3 ∨ k = 4 ∨ k = 5 ∨ k = 6 ∨ k = 7 ∨ k = 8 ∨ k = 9 ∨ k = 10 ∨ k = 11 := by omega
theorem Blk.at12 {w : World} {g : Nat} {t : TypeId} {M : Nat → Int} (h : Blk w g t #[.int .i64 (M 0), .int .i64 (M 1), .int .i64 (M 2), .int .i64 (M 3), .int .i64 (M 4), .int .i64 (M 5), .int .i64 (M 6), .int .i64 (M 7), .int .i64 (M 8), .int .i64 (M 9), .int .i64 (M 10), .int .i64 (M 11)]) {k : Nat} (hk : k < 12) : w.cell? ⟨g, k, none⟩ = some (.int .i64 (M k)) := by
  rcases lt12 hk with rfl | rfl | rfl | rfl | rfl | rfl | rfl | rfl | rfl | rfl | rfl | rfl
  · exact h.cell 0
  · exact h.cell 1
  · exact h.cell 2
  · exact h.cell 3
  · exact h.cell 4
  · exact h.cell 5
  · exact h.cell 6
  · exact h.cell 7
  · exact h.cell 8
  · exact h.cell 9
  · exact h.cell 10
  · exact h.cell 11
theorem Blk.at3 {w : World} {g : Nat} {t : TypeId} {M : Nat → Int} (h : Blk w g t #[.int .i64 (M 0), .int .i64 (M 1), .int .i64 (M 2)]) {k : Nat} (hk : k < 3) : w.cell? ⟨g, k, none⟩ = some (.int .i64 (M k)) := by
  obtain rfl | rfl | rfl : k = 0 ∨ k = 1 ∨ k = 2 := by omega
  · exact h.cell 0
  · exact h.cell 1
  · exact h.cell 2
def zeroM : Nat → Int := fun _ => 0
def okM (M : Nat → Int) : Bool := rightB [M 0, M 1, M 2, M 3, M 4, M 5, M 6, M 7, M 8, M 9, M 10, M 11]
def rightM (Ms : List (Nat → Int)) : Bool := Ms.all okM

theorem row12 {w : World} {g : Nat} {t : TypeId} {M : Nat → Int} (h : Blk w g t #[.int .i64 (M 0), .int .i64 (M 1), .int .i64 (M 2), .int .i64 (M 3), .int .i64 (M 4), .int .i64 (M 5), .int .i64 (M 6), .int .i64 (M 7), .int .i64 (M 8), .int .i64 (M 9), .int .i64 (M 10), .int .i64 (M 11)]) : Row w (some ⟨g, 0, none⟩) 12 [M 0, M 1, M 2, M 3, M 4, M 5, M 6, M 7, M 8, M 9, M 10, M 11] := by
  refine ⟨rfl, by omega, Or.inr ⟨_, _, rfl, fun k hk => ?_⟩⟩
  rcases lt12 hk with rfl | rfl | rfl | rfl | rfl | rfl | rfl | rfl | rfl | rfl | rfl | rfl
  · exact h.cell 0
  · exact h.cell 1
  · exact h.cell 2
  · exact h.cell 3
  · exact h.cell 4
  · exact h.cell 5
  · exact h.cell 6
  · exact h.cell 7
  · exact h.cell 8
  · exact h.cell 9
  · exact h.cell 10
  · exact h.cell 11
theorem okM_at {M : Nat → Int} (h : okM M = true) {k : Nat} (hk : k < 12) : okB (M k) = true := by
  unfold okM rightB at h
  simp only [List.all_cons, List.all_nil, Bool.and_true, Bool.and_eq_true] at h
  rcases lt12 hk with rfl | rfl | rfl | rfl | rfl | rfl | rfl | rfl | rfl | rfl | rfl | rfl <;> simp [h]
theorem okM_of {M : Nat → Int} (h : ∀ k, k < 12 → okB (M k) = true) : okM M = true := by
  unfold okM rightB
  simp [h 0 (by omega), h 1 (by omega), h 2 (by omega), h 3 (by omega), h 4 (by omega), h 5 (by omega), h 6 (by omega), h 7 (by omega), h 8 (by omega), h 9 (by omega), h 10 (by omega), h 11 (by omega)]

/-- a slice of matrices whose elements are 'Ms' -/
def MRow (w : World) (a : Option Addr) (len : Nat) (Ms : List (Nat → Int)) : Prop :=
  Ms.length = len ∧ len ≤ 9223372036854775807 ∧ (len = 0 ∨ ∃ b off, a = some ⟨b, off, none⟩ ∧ ∀ i, i < len → ∀ j, j < 12 → w.cell? ⟨b, off + i * 12 + j, none⟩ = some (.int .i64 (Ms.getD i zeroM j)))
theorem mrow_keep {w w' : World} {a : Option Addr} {len : Nat} {Ms : List (Nat → Int)} (h : MRow w a len Ms) (hb : Below w.heap.size w w') : MRow w' a len Ms := by
  obtain ⟨h1, h2, h3⟩ := h
  refine ⟨h1, h2, ?_⟩
  rcases h3 with h3 | ⟨b, off, e, hc⟩
  · exact Or.inl h3
  · exact Or.inr ⟨b, off, e, fun i hi j hj => cell_keep (hc i hi j hj) hb⟩
theorem MRow.at_ {w : World} {a : Option Addr} {len k : Nat} {Ms : List (Nat → Int)} (h : MRow w a len Ms) (hk : k < len) :
    ∃ b off M, a = some ⟨b, off, none⟩ ∧ Ms[k]? = some M ∧ w.cell? ⟨b, off + k * 12, none⟩ = some (.int .i64 (M 0)) ∧ w.cell? ⟨b, off + k * 12 + 1, none⟩ = some (.int .i64 (M 1)) ∧ w.cell? ⟨b, off + k * 12 + 2, none⟩ = some (.int .i64 (M 2)) ∧ w.cell? ⟨b, off + k * 12 + 3, none⟩ = some (.int .i64 (M 3)) ∧ w.cell? ⟨b, off + k * 12 + 4, none⟩ = some (.int .i64 (M 4)) ∧ w.cell? ⟨b, off + k * 12 + 5, none⟩ = some (.int .i64 (M 5)) ∧ w.cell? ⟨b, off + k * 12 + 6, none⟩ = some (.int .i64 (M 6)) ∧ w.cell? ⟨b, off + k * 12 + 7, none⟩ = some (.int .i64 (M 7)) ∧ w.cell? ⟨b, off + k * 12 + 8, none⟩ = some (.int .i64 (M 8)) ∧ w.cell? ⟨b, off + k * 12 + 9, none⟩ = some (.int .i64 (M 9)) ∧ w.cell? ⟨b, off + k * 12 + 10, none⟩ = some (.int .i64 (M 10)) ∧ w.cell? ⟨b, off + k * 12 + 11, none⟩ = some (.int .i64 (M 11)) := by
  obtain ⟨h1, h2, h3⟩ := h
  rcases h3 with h3 | ⟨b, off, rfl, hc⟩
  · omega
  · have hk' : k < Ms.length := by omega
    have e : Ms.getD k zeroM = Ms[k] := by simp [List.getD, List.getElem?_eq_getElem hk']
    have c := hc k hk
    rw [e] at c
    exact ⟨b, off, _, rfl, List.getElem?_eq_getElem hk', c 0 (by omega), c 1 (by omega), c 2 (by omega), c 3 (by omega), c 4 (by omega), c 5 (by omega), c 6 (by omega), c 7 (by omega), c 8 (by omega), c 9 (by omega), c 10 (by omega), c 11 (by omega)⟩
theorem rightM_succ {Ms : List (Nat → Int)} {k : Nat} {M : Nat → Int} (h : Ms[k]? = some M) (hr : rightM (Ms.take k) = true) (ho : okM M = true) : rightM (Ms.take (k + 1)) = true := by
  unfold rightM at hr ⊢
  rw [List.take_add_one, List.all_append, hr, h]
  simpa using ho
theorem rightM_bad {Ms : List (Nat → Int)} {k : Nat} {M : Nat → Int} (h : Ms[k]? = some M) (ho : okM M = false) : rightM Ms = false := by
  unfold rightM
  rw [List.all_eq_false]
  exact ⟨M, List.mem_of_getElem? h, by simpa using ho⟩
theorem rightM_all {Ms : List (Nat → Int)} {k : Nat} (hr : rightM (Ms.take k) = true) (h : Ms.length ≤ k) : rightM Ms = true := by
  rwa [List.take_of_length_le h] at hr

end Go.Proofs.Ytiniflddgnbngaa
