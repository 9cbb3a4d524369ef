/-
  The live question of layer 6, whose answer is fixed.
-/
import Derived.Test.YtpobnmcjmclgbaaPrtP
namespace Go.Proofs.Ytpobnmcjmclgbaa
open Go.RowKit

theorem blk_store {w : World} {g t : Nat} {Z X : List Value} (k : Blk w g t Z.toArray) (h : X.length = Z.length) : Blk (w.setCells g 0 X) g t X.toArray := by
  have := blk_setCells X k (o := 0) (by omega)
  rw [splice_all h] at this
  exact this
def q6 : PT := (4, zI, 0, zI, 3, 0, true, 0)
def r6 : PT := (0, zI, 0, zI, 1, 0, false, 0)
theorem q6_with : withE zT q6 [2] = 0 ∧ withV zT q6 [2] = q6 := with_yes (by kernel_rfl)
theorem q6_out : woutE q6 [2] = 0 ∧ woutV q6 [2] = zT := by
  obtain ⟨h1, h2⟩ := wout_yes (P := q6) (ks := [2]) (by kernel_rfl)
  exact ⟨h1, h2.trans rfl⟩
theorem q6_drawn : drawnT q6 = false := by kernel_rfl
theorem r6_right : rightT r6 = false := by kernel_rfl
theorem kinds5 : kindsL 5 = [0, 2] := by decide
theorem of6 : ksV [2, 0, 2] = 5 ∧ ksE [2, 0, 2] = 0 := by decide
theorem has60 : hasAll 5 [0] = true := by decide
theorem has61 : hasAll 5 [1] = false := by decide

end Go.Proofs.Ytpobnmcjmclgbaa
