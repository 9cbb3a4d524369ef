/-
  What package affine's Mul answers: the product of a list of matrices.
-/
import Derived.Test.YthdgldoailjhhaaAffJ
namespace Go.Proofs.Ythdgldoailjhhaa
open Go.RowKit

/-- the product from P on, and the first error -/
def foldM (P : Nat → Int) : List (Nat → Int) → (Nat → Int) × Int
  | [] => (P, 0)
  | M :: Ms => if prodE2 P M = 0 then foldM (prodM P M) Ms else (zeroM, prodE2 P M)
/-- the product of a list, and the error -/
def mulMs (Ms : List (Nat → Int)) : (Nat → Int) × Int :=
  if rightM Ms then (match Ms with | [] => (sameM, 0) | M :: Ms => foldM M Ms) else (zeroM, 1)
theorem mulMs_no {Ms : List (Nat → Int)} (h : rightM Ms = false) : mulMs Ms = (zeroM, 1) := by unfold mulMs; rw [h]; rfl
theorem mulMs_cons {M : Nat → Int} {Ms : List (Nat → Int)} (h : rightM (M :: Ms) = true) : mulMs (M :: Ms) = foldM M Ms := by unfold mulMs; rw [h]; rfl
theorem foldM_ok {P M : Nat → Int} {Ms : List (Nat → Int)} {k : Nat} (h : Ms[k]? = some M) (he : prodE2 P M = 0) : foldM P (Ms.drop k) = foldM (prodM P M) (Ms.drop (k + 1)) := by
  obtain ⟨hk, e⟩ := List.getElem?_eq_some_iff.1 h
  rw [List.drop_eq_getElem_cons hk, e]
  show (if prodE2 P M = 0 then _ else _) = _
  rw [if_pos he]
theorem foldM_no {P M : Nat → Int} {Ms : List (Nat → Int)} {k : Nat} (h : Ms[k]? = some M) (he : prodE2 P M ≠ 0) : foldM P (Ms.drop k) = (zeroM, prodE2 P M) := by
  obtain ⟨hk, e⟩ := List.getElem?_eq_some_iff.1 h
  rw [List.drop_eq_getElem_cons hk, e]
  show (if prodE2 P M = 0 then _ else _) = _
  rw [if_neg he]

theorem mright_b {a : Option Addr} {len cap : Nat} {Ms : List (Nat → Int)} {w : World} {b : Bool} (hr : rightM Ms = b) (row : MRow w a len Ms) :
    Calls Try.prog 29 #[.slice a len cap] w fun e w' => e = .returned (.bool b) ∧ Below w.heap.size w w' :=
  (mright_any a len cap Ms w row).mono fun _ _ ⟨he, hw⟩ => ⟨by rw [he, hr], hw⟩

/-- the cells of a slice of matrices, and of what is behind the first one -/
theorem MRow.tail {w : World} {b off n : Nat} {M : Nat → Int} {Ms : List (Nat → Int)} (h : MRow w (some ⟨b, off, none⟩) (n + 1) (M :: Ms)) : MRow w (some ⟨b, off + 12, none⟩) n Ms := by
  obtain ⟨h1, h2, h3⟩ := h
  refine ⟨by simpa using h1, by omega, Or.inr ⟨b, off + 12, rfl, fun i hi j hj => ?_⟩⟩
  rcases h3 with h3 | ⟨b', off', e, hc⟩
  · omega
  · simp at e
    obtain ⟨rfl, rfl⟩ := e
    have := hc (i + 1) (by omega) j hj
    rw [show off + (i + 1) * 12 + j = off + 12 + i * 12 + j by omega] at this
    simpa using this
theorem MRow.head {w : World} {b off n : Nat} {M : Nat → Int} {Ms : List (Nat → Int)} (h : MRow w (some ⟨b, off, none⟩) (n + 1) (M :: Ms)) : w.cell? ⟨b, off, none⟩ = some (.int .i64 (M 0)) ∧ w.cell? ⟨b, off + 1, none⟩ = some (.int .i64 (M 1)) ∧ w.cell? ⟨b, off + 2, none⟩ = some (.int .i64 (M 2)) ∧ w.cell? ⟨b, off + 3, none⟩ = some (.int .i64 (M 3)) ∧ w.cell? ⟨b, off + 4, none⟩ = some (.int .i64 (M 4)) ∧ w.cell? ⟨b, off + 5, none⟩ = some (.int .i64 (M 5)) ∧ w.cell? ⟨b, off + 6, none⟩ = some (.int .i64 (M 6)) ∧ w.cell? ⟨b, off + 7, none⟩ = some (.int .i64 (M 7)) ∧ w.cell? ⟨b, off + 8, none⟩ = some (.int .i64 (M 8)) ∧ w.cell? ⟨b, off + 9, none⟩ = some (.int .i64 (M 9)) ∧ w.cell? ⟨b, off + 10, none⟩ = some (.int .i64 (M 10)) ∧ w.cell? ⟨b, off + 11, none⟩ = some (.int .i64 (M 11)) := by
  obtain ⟨h1, h2, h3⟩ := h
  rcases h3 with h3 | ⟨b', off', e, hc⟩
  · omega
  · simp at e
    obtain ⟨rfl, rfl⟩ := e
    have c := hc 0 (by omega)
    simp only [Nat.zero_mul, Nat.add_zero] at c
    exact ⟨c 0 (by omega), c 1 (by omega), c 2 (by omega), c 3 (by omega), c 4 (by omega), c 5 (by omega), c 6 (by omega), c 7 (by omega), c 8 (by omega), c 9 (by omega), c 10 (by omega), c 11 (by omega)⟩

/-- twelve stores into a block, and into another one -/
theorem Blk.set12 {w : World} {g : Nat} {t : TypeId} {x0 x1 x2 x3 x4 x5 x6 x7 x8 x9 x10 x11 u0 u1 u2 u3 u4 u5 u6 u7 u8 u9 u10 u11 : Value} (h : Blk w g t #[x0, x1, x2, x3, x4, x5, x6, x7, x8, x9, x10, x11]) : Blk ((((((((((((w.setCell ⟨g, 0, none⟩ u0).setCell ⟨g, 1, none⟩ u1).setCell ⟨g, 2, none⟩ u2).setCell ⟨g, 3, none⟩ u3).setCell ⟨g, 4, none⟩ u4).setCell ⟨g, 5, none⟩ u5).setCell ⟨g, 6, none⟩ u6).setCell ⟨g, 7, none⟩ u7).setCell ⟨g, 8, none⟩ u8).setCell ⟨g, 9, none⟩ u9).setCell ⟨g, 10, none⟩ u10).setCell ⟨g, 11, none⟩ u11) g t #[u0, u1, u2, u3, u4, u5, u6, u7, u8, u9, u10, u11] := by
  have h0 : Blk (w.setCell ⟨g, 0, none⟩ u0) g t #[u0, x1, x2, x3, x4, x5, x6, x7, x8, x9, x10, x11] := by simpa using h.set_ 0 u0
  have h1 : Blk ((w.setCell ⟨g, 0, none⟩ u0).setCell ⟨g, 1, none⟩ u1) g t #[u0, u1, x2, x3, x4, x5, x6, x7, x8, x9, x10, x11] := by simpa using h0.set_ 1 u1
  have h2 : Blk (((w.setCell ⟨g, 0, none⟩ u0).setCell ⟨g, 1, none⟩ u1).setCell ⟨g, 2, none⟩ u2) g t #[u0, u1, u2, x3, x4, x5, x6, x7, x8, x9, x10, x11] := by simpa using h1.set_ 2 u2
  have h3 : Blk ((((w.setCell ⟨g, 0, none⟩ u0).setCell ⟨g, 1, none⟩ u1).setCell ⟨g, 2, none⟩ u2).setCell ⟨g, 3, none⟩ u3) g t #[u0, u1, u2, u3, x4, x5, x6, x7, x8, x9, x10, x11] := by simpa using h2.set_ 3 u3
  have h4 : Blk (((((w.setCell ⟨g, 0, none⟩ u0).setCell ⟨g, 1, none⟩ u1).setCell ⟨g, 2, none⟩ u2).setCell ⟨g, 3, none⟩ u3).setCell ⟨g, 4, none⟩ u4) g t #[u0, u1, u2, u3, u4, x5, x6, x7, x8, x9, x10, x11] := by simpa using h3.set_ 4 u4
  have h5 : Blk ((((((w.setCell ⟨g, 0, none⟩ u0).setCell ⟨g, 1, none⟩ u1).setCell ⟨g, 2, none⟩ u2).setCell ⟨g, 3, none⟩ u3).setCell ⟨g, 4, none⟩ u4).setCell ⟨g, 5, none⟩ u5) g t #[u0, u1, u2, u3, u4, u5, x6, x7, x8, x9, x10, x11] := by simpa using h4.set_ 5 u5
  have h6 : Blk (((((((w.setCell ⟨g, 0, none⟩ u0).setCell ⟨g, 1, none⟩ u1).setCell ⟨g, 2, none⟩ u2).setCell ⟨g, 3, none⟩ u3).setCell ⟨g, 4, none⟩ u4).setCell ⟨g, 5, none⟩ u5).setCell ⟨g, 6, none⟩ u6) g t #[u0, u1, u2, u3, u4, u5, u6, x7, x8, x9, x10, x11] := by simpa using h5.set_ 6 u6
  have h7 : Blk ((((((((w.setCell ⟨g, 0, none⟩ u0).setCell ⟨g, 1, none⟩ u1).setCell ⟨g, 2, none⟩ u2).setCell ⟨g, 3, none⟩ u3).setCell ⟨g, 4, none⟩ u4).setCell ⟨g, 5, none⟩ u5).setCell ⟨g, 6, none⟩ u6).setCell ⟨g, 7, none⟩ u7) g t #[u0, u1, u2, u3, u4, u5, u6, u7, x8, x9, x10, x11] := by simpa using h6.set_ 7 u7
  have h8 : Blk (((((((((w.setCell ⟨g, 0, none⟩ u0).setCell ⟨g, 1, none⟩ u1).setCell ⟨g, 2, none⟩ u2).setCell ⟨g, 3, none⟩ u3).setCell ⟨g, 4, none⟩ u4).setCell ⟨g, 5, none⟩ u5).setCell ⟨g, 6, none⟩ u6).setCell ⟨g, 7, none⟩ u7).setCell ⟨g, 8, none⟩ u8) g t #[u0, u1, u2, u3, u4, u5, u6, u7, u8, x9, x10, x11] := by simpa using h7.set_ 8 u8
  have h9 : Blk ((((((((((w.setCell ⟨g, 0, none⟩ u0).setCell ⟨g, 1, none⟩ u1).setCell ⟨g, 2, none⟩ u2).setCell ⟨g, 3, none⟩ u3).setCell ⟨g, 4, none⟩ u4).setCell ⟨g, 5, none⟩ u5).setCell ⟨g, 6, none⟩ u6).setCell ⟨g, 7, none⟩ u7).setCell ⟨g, 8, none⟩ u8).setCell ⟨g, 9, none⟩ u9) g t #[u0, u1, u2, u3, u4, u5, u6, u7, u8, u9, x10, x11] := by simpa using h8.set_ 9 u9
  have h10 : Blk (((((((((((w.setCell ⟨g, 0, none⟩ u0).setCell ⟨g, 1, none⟩ u1).setCell ⟨g, 2, none⟩ u2).setCell ⟨g, 3, none⟩ u3).setCell ⟨g, 4, none⟩ u4).setCell ⟨g, 5, none⟩ u5).setCell ⟨g, 6, none⟩ u6).setCell ⟨g, 7, none⟩ u7).setCell ⟨g, 8, none⟩ u8).setCell ⟨g, 9, none⟩ u9).setCell ⟨g, 10, none⟩ u10) g t #[u0, u1, u2, u3, u4, u5, u6, u7, u8, u9, u10, x11] := by simpa using h9.set_ 10 u10
  have h11 : Blk ((((((((((((w.setCell ⟨g, 0, none⟩ u0).setCell ⟨g, 1, none⟩ u1).setCell ⟨g, 2, none⟩ u2).setCell ⟨g, 3, none⟩ u3).setCell ⟨g, 4, none⟩ u4).setCell ⟨g, 5, none⟩ u5).setCell ⟨g, 6, none⟩ u6).setCell ⟨g, 7, none⟩ u7).setCell ⟨g, 8, none⟩ u8).setCell ⟨g, 9, none⟩ u9).setCell ⟨g, 10, none⟩ u10).setCell ⟨g, 11, none⟩ u11) g t #[u0, u1, u2, u3, u4, u5, u6, u7, u8, u9, u10, u11] := by simpa using h10.set_ 11 u11
  exact h11
theorem Blk.far12 {w : World} {g g' : Nat} {t : TypeId} {cs : Array Value} {u0 u1 u2 u3 u4 u5 u6 u7 u8 u9 u10 u11 : Value} (h : Blk w g t cs) (hne : g ≠ g') : Blk ((((((((((((w.setCell ⟨g', 0, none⟩ u0).setCell ⟨g', 1, none⟩ u1).setCell ⟨g', 2, none⟩ u2).setCell ⟨g', 3, none⟩ u3).setCell ⟨g', 4, none⟩ u4).setCell ⟨g', 5, none⟩ u5).setCell ⟨g', 6, none⟩ u6).setCell ⟨g', 7, none⟩ u7).setCell ⟨g', 8, none⟩ u8).setCell ⟨g', 9, none⟩ u9).setCell ⟨g', 10, none⟩ u10).setCell ⟨g', 11, none⟩ u11) g t cs := ((((((((((((h.far (p := ⟨g', 0, none⟩) hne u0).far (p := ⟨g', 1, none⟩) hne u1).far (p := ⟨g', 2, none⟩) hne u2).far (p := ⟨g', 3, none⟩) hne u3).far (p := ⟨g', 4, none⟩) hne u4).far (p := ⟨g', 5, none⟩) hne u5).far (p := ⟨g', 6, none⟩) hne u6).far (p := ⟨g', 7, none⟩) hne u7).far (p := ⟨g', 8, none⟩) hne u8).far (p := ⟨g', 9, none⟩) hne u9).far (p := ⟨g', 10, none⟩) hne u10).far (p := ⟨g', 11, none⟩) hne u11)

end Go.Proofs.Ythdgldoailjhhaa
