/-
  Plain arithmetic for package fix: floors of products and quotients.
-/
import Derived.Below
namespace Go.Proofs.Ytiniflddgnbngaa
set_option linter.unusedVariables false

theorem fdiv_pos (a b q : Int) (hb : 0 < b) (h1 : b * q ≤ a) (h2 : a < b * q + b) : a.fdiv b = q := by
  rw [Int.fdiv_eq_ediv_of_nonneg _ (Int.le_of_lt hb)]
  have h3 : q ≤ a / b := (Int.le_ediv_iff_mul_le hb).2 (by rw [Int.mul_comm]; exact h1)
  have h4 : a / b < q + 1 := (Int.ediv_lt_iff_lt_mul hb).2 (by rw [Int.mul_comm, Int.mul_add]; omega)
  omega

theorem fdiv_neg (a b q : Int) (hb : b < 0) (h1 : a ≤ b * q) (h2 : b * q + b < a) : a.fdiv b = q := by
  rw [← Int.neg_fdiv_neg]
  exact fdiv_pos (-a) (-b) q (by omega) (by rw [Int.neg_mul]; omega) (by rw [Int.neg_mul]; omega)

theorem fdiv_uniq (a b q r : Int) (hb : b ≠ 0) (h : a = b * q + r) (hr : (0 < b ∧ 0 ≤ r ∧ r < b) ∨ (b < 0 ∧ b < r ∧ r ≤ 0)) : a.fdiv b = q := by
  rcases hr with ⟨h0, h1, h2⟩ | ⟨h0, h1, h2⟩
  · exact fdiv_pos a b q h0 (by omega) (by omega)
  · exact fdiv_neg a b q h0 (by omega) (by omega)

theorem tmod_facts (a b : Int) (hb : b ≠ 0) : a = b * a.tdiv b + a.tmod b ∧ (0 < b → a.tmod b < b ∧ -b < a.tmod b) ∧ (b < 0 → a.tmod b < -b ∧ b < a.tmod b) := by
  have h := Int.mul_tdiv_add_tmod a b
  refine ⟨h.symm, fun h0 => ⟨Int.tmod_lt_of_pos a h0, ?_⟩, fun h0 => ?_⟩
  · have := Int.tmod_lt_of_pos (-a) h0
    rw [Int.neg_tmod] at this
    omega
  · have h1 := Int.tmod_lt_of_pos a (show 0 < -b by omega)
    have h2 := Int.tmod_lt_of_pos (-a) (show 0 < -b by omega)
    rw [Int.neg_tmod] at h2
    rw [Int.tmod_neg] at h1 h2
    omega

theorem fdiv_keep (a b : Int) (hb : b ≠ 0) (h : a.tmod b = 0 ∨ (a.tmod b < 0 ∧ b < 0) ∨ (0 ≤ a.tmod b ∧ 0 ≤ b)) : a.fdiv b = a.tdiv b := by
  obtain ⟨h1, h2, h3⟩ := tmod_facts a b hb
  rcases Int.lt_or_gt_of_ne hb with h0 | h0
  · have := h3 h0
    exact fdiv_uniq a b _ _ hb h1 (Or.inr ⟨h0, by omega, by omega⟩)
  · have := h2 h0
    exact fdiv_uniq a b _ _ hb h1 (Or.inl ⟨h0, by omega, by omega⟩)

theorem fdiv_less (a b : Int) (hb : b ≠ 0) (h0' : a.tmod b ≠ 0) (h : (a.tmod b < 0 ∧ 0 ≤ b) ∨ (0 ≤ a.tmod b ∧ b < 0)) : a.fdiv b = a.tdiv b - 1 := by
  obtain ⟨h1, h2, h3⟩ := tmod_facts a b hb
  have e : a = b * (a.tdiv b - 1) + (a.tmod b + b) := by rw [Int.mul_sub]; omega
  rcases Int.lt_or_gt_of_ne hb with h0 | h0
  · have := h3 h0
    exact fdiv_uniq a b _ _ hb e (Or.inr ⟨h0, by omega, by omega⟩)
  · have := h2 h0
    exact fdiv_uniq a b _ _ hb e (Or.inl ⟨h0, by omega, by omega⟩)

/-- what the reference makes of a magnitude's whole part: dropped downwards -/
def flo (q : Int) (rest below : Bool) : Int := if below then (if rest then -q - 1 else -q) else q

theorem flo_pos (x : Int) (m : Int) (hm : 0 < m) : flo (x / m) (x % m != 0) false = x.fdiv m := by
  rw [Int.fdiv_eq_ediv_of_nonneg _ (Int.le_of_lt hm)]; rfl

theorem flo_neg (x : Int) (m : Int) (hm : 0 < m) : flo (x / m) (x % m != 0) true = (-x).fdiv m := by
  have h := Int.mul_ediv_add_emod x m
  have h1 := Int.emod_nonneg x (show m ≠ 0 by omega)
  have h2 := Int.emod_lt_of_pos x hm
  unfold flo
  rw [if_pos rfl]
  by_cases e : x % m = 0
  · have e' : (x % m != 0) = false := by simp [e]
    rw [e']
    refine (fdiv_pos _ _ _ hm ?_ ?_).symm <;> rw [if_neg (by decide), Int.mul_neg] <;> omega
  · have e' : (x % m != 0) = true := by simp [e]
    rw [e']
    refine (fdiv_pos _ _ _ hm ?_ ?_).symm <;> rw [if_pos rfl, Int.mul_sub, Int.mul_neg] <;> omega

/-- the product by halves of 16 places -/
theorem halves (x y : Int) : x / 65536 * y + x % 65536 * y / 65536 = x * y / 65536 ∧ x % 65536 * y % 65536 = x * y % 65536 := by
  have h : x * y = x % 65536 * y + 65536 * (x / 65536 * y) := by
    have := Int.mul_ediv_add_emod x 65536
    calc x * y = (65536 * (x / 65536) + x % 65536) * y := by rw [this]
      _ = _ := by rw [Int.add_mul, Int.mul_assoc]; omega
  rw [h, Int.add_mul_ediv_left _ _ (by decide), Int.add_mul_emod_self_left]
  omega

theorem fdiv_65536 (x : Int) : x.fdiv 65536 = x / 65536 := Int.fdiv_eq_ediv_of_nonneg _ (by decide)

/-- the quotient digit by digit: behind k digits -/
def DigB (x y q r : Int) (k : Nat) : Prop := 0 ≤ q ∧ 0 ≤ r ∧ r < y ∧ y * q + r = x * 2 ^ k

theorem dig_start (x y : Int) (hx : 0 ≤ x) (hy : 0 < y) : DigB x y (x / y) (x % y) 0 :=
  ⟨Int.ediv_nonneg hx (Int.le_of_lt hy), Int.emod_nonneg x (by omega), Int.emod_lt_of_pos x hy, by rw [Int.mul_ediv_add_emod]; omega⟩

theorem dig_low {x y q r : Int} {k : Nat} (h : DigB x y q r k) (hr : 2 * r < y) : DigB x y (2 * q) (2 * r) (k + 1) := by
  obtain ⟨h1, h2, h3, h4⟩ := h
  refine ⟨by omega, by omega, hr, ?_⟩
  have e : x * 2 ^ (k + 1) = 2 * (x * 2 ^ k) := by rw [Int.pow_succ, ← Int.mul_assoc, Int.mul_comm]
  rw [e, ← h4, Int.mul_left_comm]
  omega

theorem dig_high {x y q r : Int} {k : Nat} (h : DigB x y q r k) (hr : y ≤ 2 * r) : DigB x y (2 * q + 1) (2 * r - y) (k + 1) := by
  obtain ⟨h1, h2, h3, h4⟩ := h
  refine ⟨by omega, by omega, by omega, ?_⟩
  rw [Int.pow_succ, ← Int.mul_assoc, ← h4, Int.add_mul, Int.mul_add, Int.mul_left_comm]
  omega

theorem dig_end {x y q r : Int} (hy : 0 < y) (h : DigB x y q r 16) : q = x * 65536 / y ∧ r = x * 65536 % y := by
  obtain ⟨h1, h2, h3, h4⟩ := h
  have e : x * 65536 = r + y * q := by rw [show (65536 : Int) = 2 ^ 16 by decide, ← h4]; omega
  rw [e, Int.add_mul_ediv_left _ _ (by omega), Int.add_mul_emod_self_left, Int.ediv_eq_zero_of_lt h2 h3, Int.emod_eq_of_lt h2 h3]
  omega

theorem dig_bd {x y q r : Int} {k : Nat} (hk : k ≤ 16) (hx : x ≤ 2147483648) (hx0 : 0 ≤ x) (hy : 0 < y) (h : DigB x y q r k) : q ≤ 140737488355328 := by
  obtain ⟨h1, h2, h3, h4⟩ := h
  have h5 : q ≤ y * q := by
    have := Int.mul_le_mul_of_nonneg_right (show (1 : Int) ≤ y by omega) h1
    omega
  have h6 : (2 : Int) ^ k ≤ 2 ^ 16 := by have := Nat.pow_le_pow_right (n := 2) (by omega) hk; exact_mod_cast this
  have h7 : x * 2 ^ k ≤ x * 2 ^ 16 := Int.mul_le_mul_of_nonneg_left h6 hx0
  omega

end Go.Proofs.Ytiniflddgnbngaa
