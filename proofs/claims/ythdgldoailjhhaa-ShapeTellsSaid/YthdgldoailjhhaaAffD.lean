/-
  What package affine's Turn answers, and the reference's.
-/
import Derived.Test.YthdgldoailjhhaaAffC
namespace Go.Proofs.Ythdgldoailjhhaa
open Go.RowKit

theorem tmod3 (a : Int) : (a.tmod 3 = -2 ∧ a % 3 = 1) ∨ (a.tmod 3 = -1 ∧ a % 3 = 2) ∨ (a.tmod 3 = 0 ∧ a % 3 = 0) ∨ (a.tmod 3 = 1 ∧ a % 3 = 1) ∨ (a.tmod 3 = 2 ∧ a % 3 = 2) := by
  obtain ⟨h1, h2, _⟩ := tmod_facts a 3 (by decide)
  have h3 := h2 (by decide)
  generalize a.tdiv 3 = q at *
  generalize a.tmod 3 = r at *
  omega

set_option maxHeartbeats 1000000 in
theorem rturn_any (a : Int) (w : World) :
    Calls Try.prog 21 #[.int .i64 a] w fun e w' => e = .returned (.agg #[.int .i64 (turnM (a % 3) 0), .int .i64 (turnM (a % 3) 1), .int .i64 (turnM (a % 3) 2), .int .i64 (turnM (a % 3) 3), .int .i64 (turnM (a % 3) 4), .int .i64 (turnM (a % 3) 5), .int .i64 (turnM (a % 3) 6), .int .i64 (turnM (a % 3) 7), .int .i64 (turnM (a % 3) 8), .int .i64 (turnM (a % 3) 9), .int .i64 (turnM (a % 3) 10), .int .i64 (turnM (a % 3) 11)]) ∧ Below w.heap.size w w' := by
  have h := tmod3 a
  rcases h with ⟨h, e⟩ | ⟨h, e⟩ | ⟨h, e⟩ | ⟨h, e⟩ | ⟨h, e⟩
  · rw [e]
    clear e
    show Calls Try.prog 21 #[.int .i64 a] w fun e w' => e = .returned (.agg #[.int .i64 0, .int .i64 0, .int .i64 65536, .int .i64 0, .int .i64 0, .int .i64 65536, .int .i64 0, .int .i64 0, .int .i64 (-65536), .int .i64 0, .int .i64 0, .int .i64 0]) ∧ Below w.heap.size w w'
    go_enter Try.func21, Try.ntmps21
    go_wp2
    exact bodyPost_ret (v := .agg #[.int .i64 0, .int .i64 0, .int .i64 65536, .int .i64 0, .int .i64 0, .int .i64 65536, .int .i64 0, .int .i64 0, .int .i64 (-65536), .int .i64 0, .int .i64 0, .int .i64 0]) (by simp [results, Try.results21, go_sem]) rfl ⟨rfl, balloc (alloc_below _ _) _⟩
  · rw [e]
    clear e
    show Calls Try.prog 21 #[.int .i64 a] w fun e w' => e = .returned (.agg #[.int .i64 0, .int .i64 (-65536), .int .i64 0, .int .i64 0, .int .i64 65536, .int .i64 0, .int .i64 0, .int .i64 0, .int .i64 0, .int .i64 0, .int .i64 65536, .int .i64 0]) ∧ Below w.heap.size w w'
    go_enter Try.func21, Try.ntmps21
    go_wp2
    exact bodyPost_ret (v := .agg #[.int .i64 0, .int .i64 (-65536), .int .i64 0, .int .i64 0, .int .i64 65536, .int .i64 0, .int .i64 0, .int .i64 0, .int .i64 0, .int .i64 0, .int .i64 65536, .int .i64 0]) (by simp [results, Try.results21, go_sem]) rfl ⟨rfl, balloc (alloc_below _ _) _⟩
  · rw [e]
    clear e
    show Calls Try.prog 21 #[.int .i64 a] w fun e w' => e = .returned (.agg #[.int .i64 65536, .int .i64 0, .int .i64 0, .int .i64 0, .int .i64 0, .int .i64 0, .int .i64 (-65536), .int .i64 0, .int .i64 0, .int .i64 65536, .int .i64 0, .int .i64 0]) ∧ Below w.heap.size w w'
    go_enter Try.func21, Try.ntmps21
    go_wp2
    exact bodyPost_ret (v := .agg #[.int .i64 65536, .int .i64 0, .int .i64 0, .int .i64 0, .int .i64 0, .int .i64 0, .int .i64 (-65536), .int .i64 0, .int .i64 0, .int .i64 65536, .int .i64 0, .int .i64 0]) (by simp [results, Try.results21, go_sem]) rfl ⟨rfl, balloc (alloc_below _ _) _⟩
  · rw [e]
    clear e
    show Calls Try.prog 21 #[.int .i64 a] w fun e w' => e = .returned (.agg #[.int .i64 0, .int .i64 0, .int .i64 65536, .int .i64 0, .int .i64 0, .int .i64 65536, .int .i64 0, .int .i64 0, .int .i64 (-65536), .int .i64 0, .int .i64 0, .int .i64 0]) ∧ Below w.heap.size w w'
    go_enter Try.func21, Try.ntmps21
    go_wp2
    exact bodyPost_ret (v := .agg #[.int .i64 0, .int .i64 0, .int .i64 65536, .int .i64 0, .int .i64 0, .int .i64 65536, .int .i64 0, .int .i64 0, .int .i64 (-65536), .int .i64 0, .int .i64 0, .int .i64 0]) (by simp [results, Try.results21, go_sem]) rfl ⟨rfl, balloc (alloc_below _ _) _⟩
  · rw [e]
    clear e
    show Calls Try.prog 21 #[.int .i64 a] w fun e w' => e = .returned (.agg #[.int .i64 0, .int .i64 (-65536), .int .i64 0, .int .i64 0, .int .i64 65536, .int .i64 0, .int .i64 0, .int .i64 0, .int .i64 0, .int .i64 0, .int .i64 65536, .int .i64 0]) ∧ Below w.heap.size w w'
    go_enter Try.func21, Try.ntmps21
    go_wp2
    exact bodyPost_ret (v := .agg #[.int .i64 0, .int .i64 (-65536), .int .i64 0, .int .i64 0, .int .i64 65536, .int .i64 0, .int .i64 0, .int .i64 0, .int .i64 0, .int .i64 0, .int .i64 65536, .int .i64 0]) (by simp [results, Try.results21, go_sem]) rfl ⟨rfl, balloc (alloc_below _ _) _⟩

end Go.Proofs.Ythdgldoailjhhaa
