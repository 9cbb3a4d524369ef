/-
  What the program's With, Without and Drawn of layer 6 answer.
-/
import Derived.Test.YtpobnmcjmclgbaaPrtN
namespace Go.Proofs.Ytpobnmcjmclgbaa
open Go.RowKit

theorem hasAll_ok {s : Int} {ks : List Int} (h : hasAll s ks = true) : ksOk ks = true := by
  cases c : ksOk ks with
  | true => rfl
  | false => rw [hasAll_no c] at h; cases h

/-- what Without answers, as the program reckons it, cell by cell the same -/
def woutP (P : PT) (ks : List Int) : PT := pickT (bits .andNot .i64 P.1 (ksS ks)) P
def woutPV (P : PT) (ks : List Int) : PT := if woutOk P ks then woutP P ks else zT
theorem has3 (s : Int) : hasAll s [0, 1, 2] = decide (s % 8 = 7) := by
  unfold hasAll
  have h0 : hasB s 0 = decide (s % 2 = 1) := by rw [show hasB s 0 = hasN s 0 from has_yes (k := 0) (by omega)]; unfold hasN; simp
  have h1 : hasB s 1 = decide (s / 2 % 2 = 1) := by rw [show hasB s 1 = hasN s 1 from has_yes (k := 1) (by omega)]; unfold hasN; simp
  have h2 : hasB s 2 = decide (s / 4 % 2 = 1) := by rw [show hasB s 2 = hasN s 2 from has_yes (k := 2) (by omega)]; unfold hasN; simp
  simp only [List.all_cons, List.all_nil, h0, h1, h2, Bool.and_true]
  rw [Bool.eq_iff_iff]
  simp only [Bool.and_eq_true, decide_eq_true_eq]
  omega
def drawnT (P : PT) : Bool := rightT P && decide (P.1 % 8 = 7)
end Go.Proofs.Ytpobnmcjmclgbaa
