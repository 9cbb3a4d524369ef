/-
  What the reference's Without of layer 6 answers.
-/
import Derived.Test.YtpobnmcjmclgbaaPrtF
namespace Go.Proofs.Ytpobnmcjmclgbaa
open Go.RowKit

def subK (s k : Int) : Int := if hasB s k then s - 2 ^ k.toNat else s
theorem subK_bound {s k : Int} (hs : 0 ≤ s ∧ s ≤ 31) : 0 ≤ subK s k ∧ subK s k ≤ 31 := by
  unfold subK
  by_cases c : hasB s k = true
  · rw [if_pos c]
    rcases kOk_cases (has_kOk c) with rfl | rfl | rfl | rfl | rfl
    · have : s % 2 = 1 := by simpa [hasB, hasN] using c
      show 0 ≤ s - 1 ∧ s - 1 ≤ 31
      omega
    · have : s / 2 % 2 = 1 := by simpa [hasB, hasN] using c
      show 0 ≤ s - 2 ∧ s - 2 ≤ 31
      omega
    · have : s / 4 % 2 = 1 := by simpa [hasB, hasN] using c
      show 0 ≤ s - 4 ∧ s - 4 ≤ 31
      omega
    · have : s / 8 % 2 = 1 := by simpa [hasB, hasN] using c
      show 0 ≤ s - 8 ∧ s - 8 ≤ 31
      omega
    · have : s / 16 % 2 = 1 := by simpa [hasB, hasN] using c
      show 0 ≤ s - 16 ∧ s - 16 ≤ 31
      omega
  · rw [if_neg c]; exact hs
theorem shw {k s : Int} (hk : kOk k = true) (h0 : 0 ≤ s) (h1 : s ≤ 31) : IntKind.i64.wrap (s - IntKind.i64.wrap (2 ^ min (IntKind.u64.wrap k).toNat 64)) = s - 2 ^ k.toNat := by
  have e : ∀ x : Int, -100 ≤ x → x ≤ 100 → IntKind.i64.wrap x = x := fun x a b => IntWalk.i64_in _ (by omega)
  rcases kOk_cases hk with rfl | rfl | rfl | rfl | rfl
  · rw [show IntKind.i64.wrap (2 ^ min (IntKind.u64.wrap 0).toNat 64) = 1 by decide]
    exact e (s - 1) (by omega) (by omega)
  · rw [show IntKind.i64.wrap (2 ^ min (IntKind.u64.wrap 1).toNat 64) = 2 by decide]
    exact e (s - 2) (by omega) (by omega)
  · rw [show IntKind.i64.wrap (2 ^ min (IntKind.u64.wrap 2).toNat 64) = 4 by decide]
    exact e (s - 4) (by omega) (by omega)
  · rw [show IntKind.i64.wrap (2 ^ min (IntKind.u64.wrap 3).toNat 64) = 8 by decide]
    exact e (s - 8) (by omega) (by omega)
  · rw [show IntKind.i64.wrap (2 ^ min (IntKind.u64.wrap 4).toNat 64) = 16 by decide]
    exact e (s - 16) (by omega) (by omega)
/-- parts without a kind -/
def stepO (P : PT) (k : Int) : PT := layT k (subK P.1 k, P.2) zT
def woutT (P : PT) (ks : List Int) : PT := ks.foldl stepO P
def woutOk (P : PT) (ks : List Int) : Bool := rightT P && ksOk ks
def woutE (P : PT) (ks : List Int) : Int := if woutOk P ks then 0 else 1
def woutV (P : PT) (ks : List Int) : PT := if woutOk P ks then woutT P ks else zT
theorem wout_no {P : PT} {ks : List Int} (h : woutOk P ks = false) : woutE P ks = 1 ∧ woutV P ks = zT := by unfold woutE woutV; rw [h]; exact ⟨rfl, rfl⟩
theorem wout_yes {P : PT} {ks : List Int} (h : woutOk P ks = true) : woutE P ks = 0 ∧ woutV P ks = woutT P ks := by unfold woutE woutV; rw [if_pos h, if_pos h]; exact ⟨rfl, rfl⟩
theorem wout_succ {P : PT} {ks : List Int} {j : Nat} {k : Int} (h : ks[j]? = some k) : woutT P (ks.take (j + 1)) = stepO (woutT P (ks.take j)) k := by
  unfold woutT
  rw [List.take_add_one, h, List.foldl_append]
  rfl

end Go.Proofs.Ytpobnmcjmclgbaa
