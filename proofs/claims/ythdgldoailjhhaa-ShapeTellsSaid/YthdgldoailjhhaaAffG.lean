/-
  What package affine's pair answers: the product of two matrices.
-/
import Derived.Test.YthdgldoailjhhaaAffF
namespace Go.Proofs.Ythdgldoailjhhaa
open Go.RowKit

/-- the first error of n, place by place -/
def firstN (e : Nat → Int) : Nat → Int
  | 0 => 0
  | n + 1 => if firstN e n = 0 then e n else firstN e n
theorem firstN_none {e : Nat → Int} : ∀ {n : Nat}, (∀ j, j < n → e j = 0) → firstN e n = 0
  | 0, _ => rfl
  | n + 1, h => by
    unfold firstN
    rw [if_pos (firstN_none (fun j hj => h j (by omega)))]
    exact h n (by omega)
theorem firstN_at {e : Nat → Int} {k : Nat} (h : ∀ j, j < k → e j = 0) (he : e k ≠ 0) : ∀ {n : Nat}, k < n → firstN e n = e k
  | 0, hk => by omega
  | n + 1, hk => by
    unfold firstN
    by_cases c : k = n
    · subst c; rw [if_pos (firstN_none h)]
    · have i := firstN_at h he (n := n) (by omega)
      rw [if_neg (by rw [i]; exact he), i]
theorem firstN_zero {e : Nat → Int} : ∀ {n : Nat}, firstN e n = 0 → ∀ j, j < n → e j = 0
  | 0, _, j, hj => by omega
  | n + 1, h, j, hj => by
    unfold firstN at h
    by_cases c : firstN e n = 0
    · rw [if_pos c] at h
      by_cases d : j = n
      · rw [d]; exact h
      · exact firstN_zero c j (by omega)
    · rw [if_neg c] at h; exact absurd h c

/-- what is added besides the products -/
def pairL (A : Nat → Int) (r p : Nat) : Int := if p = 3 then A (4 * r + 3) else 0
def pV (A B : Nat → Int) (k : Nat) : Int := alV A (k / 4) (colM B (k % 4)) (pairL A (k / 4) (k % 4))
def pE (A B : Nat → Int) (k : Nat) : Int := alE A (k / 4) (colM B (k % 4)) (pairL A (k / 4) (k % 4))
/-- the product of two that may be -/
def prodE2 (A B : Nat → Int) : Int := firstN (pE A B) 12
def prodM (A B : Nat → Int) (k : Nat) : Int := gate (prodE2 A B) (pV A B k)
theorem pV_at (A B : Nat → Int) {r p : Nat} (hp : p < 4) : pV A B (4 * r + p) = alV A r (colM B p) (pairL A r p) := by
  unfold pV; rw [show (4 * r + p) / 4 = r by omega, show (4 * r + p) % 4 = p by omega]
theorem pE_at (A B : Nat → Int) {r p : Nat} (hp : p < 4) : pE A B (4 * r + p) = alE A r (colM B p) (pairL A r p) := by
  unfold pE; rw [show (4 * r + p) / 4 = r by omega, show (4 * r + p) % 4 = p by omega]
theorem prod_ok {A B : Nat → Int} (h : prodE2 A B = 0) (k : Nat) : prodM A B k = pV A B k := by unfold prodM; rw [h]; rfl
theorem prod_no {A B : Nat → Int} (h : prodE2 A B ≠ 0) (k : Nat) : prodM A B k = 0 := by unfold prodM gate; rw [if_neg h]

theorem laid12_start (w : World) (t : TypeId) (f : Nat → Int) : (w.alloc (.cells #[.int .i64 0, .int .i64 0, .int .i64 0, .int .i64 0, .int .i64 0, .int .i64 0, .int .i64 0, .int .i64 0, .int .i64 0, .int .i64 0, .int .i64 0, .int .i64 0] t)).rowIs w.heap.size t 12 (laidTo f 0) := by
  refine (World.rowIs_alloc w _ t (laidTo f 0) (fun i hi => ?_))
  rcases lt12 (k := i) (by simpa using hi) with rfl | rfl | rfl | rfl | rfl | rfl | rfl | rfl | rfl | rfl | rfl | rfl <;> rfl
theorem blk_of_row {w : World} {b : Nat} {t : TypeId} {f : Nat → Int} (h : w.rowIs b t 12 (laidTo f (4 * 3))) : Blk w b t #[.int .i64 (f 0), .int .i64 (f 1), .int .i64 (f 2), .int .i64 (f 3), .int .i64 (f 4), .int .i64 (f 5), .int .i64 (f 6), .int .i64 (f 7), .int .i64 (f 8), .int .i64 (f 9), .int .i64 (f 10), .int .i64 (f 11)] := by
  obtain ⟨c, hh, hs, hc⟩ := h
  have e : c = #[.int .i64 (f 0), .int .i64 (f 1), .int .i64 (f 2), .int .i64 (f 3), .int .i64 (f 4), .int .i64 (f 5), .int .i64 (f 6), .int .i64 (f 7), .int .i64 (f 8), .int .i64 (f 9), .int .i64 (f 10), .int .i64 (f 11)] := by
    apply Array.ext
    · simp [hs]
    · intro i h1 h2
      have hi := hc i (by omega)
      rw [Array.getElem?_eq_getElem h1] at hi
      rcases lt12 (k := i) (by omega) with rfl | rfl | rfl | rfl | rfl | rfl | rfl | rfl | rfl | rfl | rfl | rfl <;> simpa [laidTo] using hi
  unfold Blk
  rw [hh, e]
theorem rangeM {w : World} {g : Nat} {t : TypeId} {A : Nat → Int} (hA : Blk w g t #[.int .i64 (A 0), .int .i64 (A 1), .int .i64 (A 2), .int .i64 (A 3), .int .i64 (A 4), .int .i64 (A 5), .int .i64 (A 6), .int .i64 (A 7), .int .i64 (A 8), .int .i64 (A 9), .int .i64 (A 10), .int .i64 (A 11)]) : w.rangeAt g 0 [.int .i64 (A 0), .int .i64 (A 1), .int .i64 (A 2), .int .i64 (A 3), .int .i64 (A 4), .int .i64 (A 5), .int .i64 (A 6), .int .i64 (A 7), .int .i64 (A 8), .int .i64 (A 9), .int .i64 (A 10), .int .i64 (A 11)] := fun j v hv => by
  rw [Nat.zero_add, hA.cell j]
  simpa using hv
theorem range2 {w : World} {g g' : Nat} {t t' : TypeId} {A B : Nat → Int} (hA : Blk w g t #[.int .i64 (A 0), .int .i64 (A 1), .int .i64 (A 2), .int .i64 (A 3), .int .i64 (A 4), .int .i64 (A 5), .int .i64 (A 6), .int .i64 (A 7), .int .i64 (A 8), .int .i64 (A 9), .int .i64 (A 10), .int .i64 (A 11)]) (hB : Blk w g' t' #[.int .i64 (B 0), .int .i64 (B 1), .int .i64 (B 2), .int .i64 (B 3), .int .i64 (B 4), .int .i64 (B 5), .int .i64 (B 6), .int .i64 (B 7), .int .i64 (B 8), .int .i64 (B 9), .int .i64 (B 10), .int .i64 (B 11)]) : w.rangeAt g 0 [.int .i64 (A 0), .int .i64 (A 1), .int .i64 (A 2), .int .i64 (A 3), .int .i64 (A 4), .int .i64 (A 5), .int .i64 (A 6), .int .i64 (A 7), .int .i64 (A 8), .int .i64 (A 9), .int .i64 (A 10), .int .i64 (A 11)] ∧ w.rangeAt g' 0 [.int .i64 (B 0), .int .i64 (B 1), .int .i64 (B 2), .int .i64 (B 3), .int .i64 (B 4), .int .i64 (B 5), .int .i64 (B 6), .int .i64 (B 7), .int .i64 (B 8), .int .i64 (B 9), .int .i64 (B 10), .int .i64 (B 11)] := ⟨rangeM hA, rangeM hB⟩
theorem sizeM (A : Nat → Int) : (Try.prog.info? 25).map (·.size) = some ([.int .i64 (A 0), .int .i64 (A 1), .int .i64 (A 2), .int .i64 (A 3), .int .i64 (A 4), .int .i64 (A 5), .int .i64 (A 6), .int .i64 (A 7), .int .i64 (A 8), .int .i64 (A 9), .int .i64 (A 10), .int .i64 (A 11)] : List Value).length := by kernel_rfl

end Go.Proofs.Ythdgldoailjhhaa
