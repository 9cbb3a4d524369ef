/-
  What the reference's sum of layer 3 answers.
-/
import Derived.Test.YthdgldoailjhhaaAffE
namespace Go.Proofs.Ythdgldoailjhhaa
open Go.RowKit

theorem rightB_rot (l a b c : Int) : rightB [l, a, b, c] = rightB [a, b, c, l] := by
  unfold rightB
  simp only [List.all_cons, List.all_nil, Bool.and_true]
  cases okB l <;> cases okB a <;> cases okB b <;> cases okB c <;> rfl
theorem addOk_rot (l a b c : Int) : addOk [l, a, b, c] = addOk [a, b, c, l] := by unfold addOk; rw [rightB_rot]; rfl
theorem sum_rot (l a b c : Int) : [l, a, b, c].sum = [a, b, c, l].sum := by simp; omega
theorem addV_rot (l a b c : Int) : addV [l, a, b, c] = addV [a, b, c, l] := by unfold addV; rw [addOk_rot, sum_rot]
theorem addE_rot (l a b c : Int) : addE [l, a, b, c] = addE [a, b, c, l] := by unfold addE; rw [addOk_rot, sum_rot]

/-- the list that the reference makes -/
def alR (M : Nat → Int) (r : Nat) (V : Nat → Int) (l : Int) : List Int := [l, alP M r V 0, alP M r V 1, alP M r V 2]
theorem alR_take (M : Nat → Int) (r : Nat) (V : Nat → Int) (l : Int) {k : Nat} (hk : k < 3) : (alR M r V l).take (k + 1 + 1) = (alR M r V l).take (k + 1) ++ [alP M r V k] := by
  obtain rfl | rfl | rfl : k = 0 ∨ k = 1 ∨ k = 2 := by omega
  · rfl
  · rfl
  · rfl
theorem owns_one (w : World) (base : Nat) (x : Int) (hb : base ≤ w.heap.size) (N : Nat) (hN : w.heap.size = N) : Owns (w.alloc (.cells #[.int .i64 x] 23)) base (.slice (some ⟨N, 0, none⟩) 1 1) 1 [x] := by
  subst hN
  exact World.ownsRow_lit w #[.int .i64 x] 1 hb (by unfold maxLen; omega) rfl

end Go.Proofs.Ythdgldoailjhhaa
