/-
  What the reference's Of of layer 6 answers; '==' of two parts.
-/
import Derived.Test.YtpobnmcjmclgbaaPrtB
import Derived.Test.YtpobnmcjmclgbaaMAff
namespace Go.Proofs.Ytpobnmcjmclgbaa
open Go.RowKit

def kOk (k : Int) : Bool := decide (0 ≤ k) && decide (k ≤ 4)
/-- a set with a kind more -/
def addK (s k : Int) : Int := if hasB s k then s else s + 2 ^ k.toNat
def ksOk (ks : List Int) : Bool := ks.all kOk
def ksS (ks : List Int) : Int := ks.foldl addK 0
def ksE (ks : List Int) : Int := if ksOk ks then 0 else 1
def ksV (ks : List Int) : Int := if ksOk ks then ksS ks else 0
theorem kOk_cases {k : Int} (h : kOk k = true) : k = 0 ∨ k = 1 ∨ k = 2 ∨ k = 3 ∨ k = 4 := by
  unfold kOk at h
  simp at h
  omega
theorem addK_bound {s k : Int} (hs : 0 ≤ s ∧ s ≤ 31) (hk : kOk k = true) : 0 ≤ addK s k ∧ addK s k ≤ 31 := by
  unfold addK
  by_cases c : hasB s k = true
  · rw [if_pos c]; exact hs
  · rw [if_neg c]
    have c' : hasB s k = false := by simpa using c
    rcases kOk_cases hk with rfl | rfl | rfl | rfl | rfl
    · have : ¬ (s % 2 = 1) := by simpa [hasB, hasN] using c'
      show 0 ≤ s + 1 ∧ s + 1 ≤ 31
      omega
    · have : ¬ (s / 2 % 2 = 1) := by simpa [hasB, hasN] using c'
      show 0 ≤ s + 2 ∧ s + 2 ≤ 31
      omega
    · have : ¬ (s / 4 % 2 = 1) := by simpa [hasB, hasN] using c'
      show 0 ≤ s + 4 ∧ s + 4 ≤ 31
      omega
    · have : ¬ (s / 8 % 2 = 1) := by simpa [hasB, hasN] using c'
      show 0 ≤ s + 8 ∧ s + 8 ≤ 31
      omega
    · have : ¬ (s / 16 % 2 = 1) := by simpa [hasB, hasN] using c'
      show 0 ≤ s + 16 ∧ s + 16 ≤ 31
      omega
theorem ks_bound : ∀ (ks : List Int) (s : Int), 0 ≤ s ∧ s ≤ 31 → ksOk ks = true → 0 ≤ ks.foldl addK s ∧ ks.foldl addK s ≤ 31
  | [], s, hs, _ => hs
  | k :: r, s, hs, h => by
    unfold ksOk at h
    rw [List.all_cons, Bool.and_eq_true] at h
    exact ks_bound r (addK s k) (addK_bound hs h.1) h.2
theorem ks_succ {ks : List Int} {j : Nat} {k : Int} (h : ks[j]? = some k) : ksS (ks.take (j + 1)) = addK (ksS (ks.take j)) k := by
  unfold ksS
  rw [List.take_add_one, h, List.foldl_append]
  rfl
theorem ksOk_succ {ks : List Int} {j : Nat} {k : Int} (h : ks[j]? = some k) (hr : ksOk (ks.take j) = true) (hk : kOk k = true) : ksOk (ks.take (j + 1)) = true := by
  unfold ksOk at hr ⊢
  rw [List.take_add_one, List.all_append, hr, h]
  simpa using hk
theorem ksOk_bad {ks : List Int} {j : Nat} {k : Int} (h : ks[j]? = some k) (hk : kOk k = false) : ksOk ks = false := by
  unfold ksOk
  rw [List.all_eq_false]
  exact ⟨k, List.mem_of_getElem? h, by simpa using hk⟩
theorem row_at6 {w : World} {a : Option Addr} {len : Nat} {zs : List Int} (h : Row w a len zs) {k : Nat} (hk : k < len) : ∃ b off x, a = some ⟨b, off, none⟩ ∧ zs[k]? = some x ∧ w.cell? ⟨b, off + k, none⟩ = some (.int .i64 x) := by
  obtain ⟨h1, h2, h3⟩ := h
  rcases h3 with h3 | ⟨b, off, rfl, hc⟩
  · omega
  · have hk' : k < zs.length := by omega
    have c := hc k hk
    rw [show zs.getD k 0 = zs[k] by simp [List.getD, List.getElem?_eq_getElem hk']] at c
    exact ⟨b, off, _, rfl, List.getElem?_eq_getElem hk', c⟩
theorem rhas_b {s k : Int} {b : Bool} (h : hasB s k = b) (w : World) :
    Calls Try.prog 18 #[.int .i64 s, .int .i64 k] w fun e w' => e = .returned (.bool b) ∧ w = w' := (rhas_any s k w).mono fun _ _ ⟨he, hw⟩ => ⟨by rw [he, h], hw⟩

end Go.Proofs.Ytpobnmcjmclgbaa
