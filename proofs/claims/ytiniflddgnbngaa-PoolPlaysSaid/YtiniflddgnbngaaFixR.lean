/-
  What the reference's functions of one and two numbers answer: the same plain Lean functions as package fix's.
-/
import Derived.Test.YtiniflddgnbngaaFixS
import Derived.OpenShut
namespace Go.Proofs.Ytiniflddgnbngaa
open Go.RowKit

theorem ediv_keep {x : Int} (h : ¬ x < x.tdiv 65536 * 65536) : x / 65536 = x.tdiv 65536 := by
  obtain ⟨h1, h2, _⟩ := tmod_facts x 65536 (by decide)
  have := h2 (by decide)
  omega
theorem ediv_less {x : Int} (h : x < x.tdiv 65536 * 65536) : x / 65536 = x.tdiv 65536 - 1 := by
  obtain ⟨h1, h2, _⟩ := tmod_facts x 65536 (by decide)
  have := h2 (by decide)
  omega
theorem tdiv_bd (x : Int) (h1 : -9223372036854775808 ≤ x) (h2 : x ≤ 9223372036854775807) :
    -140737488355328 ≤ x.tdiv 65536 ∧ x.tdiv 65536 ≤ 140737488355328 ∧ -9223372036854775808 ≤ x.tdiv 65536 * 65536 ∧ x.tdiv 65536 * 65536 ≤ 9223372036854775807 := by
  by_cases h : 0 ≤ x
  · rw [Int.tdiv_eq_ediv_of_nonneg h]
    omega
  · have e : x.tdiv 65536 = -((-x) / 65536) := by rw [← Int.tdiv_eq_ediv_of_nonneg (show 0 ≤ -x by omega), Int.neg_tdiv, Int.neg_neg]
    rw [e]
    omega

theorem pair_eq {a b c d : Int} (h1 : a = b) (h2 : c = d) : Ending.returned (.tuple #[.int .i64 a, .int .i64 c]) = .returned (.tuple #[.int .i64 b, .int .i64 d]) := by rw [h1, h2]

theorem mul_yes {a b : Int} (h : (okB a && okB b) = true) : mulV a b = fitV (a * b / 65536) ∧ mulE a b = fitE (a * b / 65536) := by
  unfold mulV mulE; rw [if_pos h, if_pos h]; exact ⟨rfl, rfl⟩
theorem mul_no {a b : Int} (h : (okB a && okB b) = false) : mulV a b = 0 ∧ mulE a b = 1 := by
  have h' : ¬ (okB a && okB b) = true := by rw [h]; decide
  unfold mulV mulE; rw [if_neg h', if_neg h']; exact ⟨rfl, rfl⟩

/-- what the walk hands to the reference's last step -/
theorem half_flo (x y : Int) (below : Bool) : flo (x / 65536 * y + x % 65536 * y / 65536) (x % 65536 * y % 65536 != 0) below = if below then (-(x * y)) / 65536 else x * y / 65536 := by
  obtain ⟨h1, h2⟩ := halves x y
  rw [h1, h2]
  cases below
  · rw [flo_pos _ _ (by decide), fdiv_65536]; rfl
  · rw [flo_neg _ _ (by decide), fdiv_65536]; rfl

theorem half_bd (x y : Int) (hx : 0 ≤ x) (hx2 : x ≤ 2147483648) (hy : 0 ≤ y) (hy2 : y ≤ 2147483648) :
    0 ≤ x % 65536 * y ∧ x % 65536 * y ≤ 140737488355328 ∧ 0 ≤ x / 65536 * y ∧ x / 65536 * y ≤ 140737488355328 := by
  have a1 := Int.mul_nonneg (show 0 ≤ x % 65536 by omega) hy
  have a2 := Int.mul_nonneg (show 0 ≤ x / 65536 by omega) hy
  have a3 : x % 65536 * y ≤ 65536 * 2147483648 := Int.mul_le_mul (by omega) hy2 hy (by omega)
  have a4 : x / 65536 * y ≤ 65536 * 2147483648 := Int.mul_le_mul (by omega) hy2 hy (by omega)
  omega

/-- a magnitude, and whether the number is below 0 -/
def Mag (a x : Int) (s : Bool) : Prop := (s = true ∧ a < 0 ∧ x = -a) ∨ (s = false ∧ 0 ≤ a ∧ x = a)

theorem mag_of (a : Int) : ∃ x s, Mag a x s := by
  by_cases h : a < 0
  · exact ⟨-a, true, Or.inl ⟨rfl, h, rfl⟩⟩
  · exact ⟨a, false, Or.inr ⟨rfl, by omega, rfl⟩⟩

theorem mag_bd {a x : Int} {s : Bool} (h : Mag a x s) (h1 : -2147483648 ≤ a) (h2 : a ≤ 2147483647) : 0 ≤ x ∧ x ≤ 2147483648 := by
  rcases h with ⟨_, h, rfl⟩ | ⟨_, h, rfl⟩ <;> omega

theorem mag_mul {a b x y : Int} {s t : Bool} (h : Mag a x s) (k : Mag b y t) :
    flo (x / 65536 * y + x % 65536 * y / 65536) (x % 65536 * y % 65536 != 0) (!s == t) = a * b / 65536 := by
  rw [half_flo]
  rcases h with ⟨rfl, _, rfl⟩ | ⟨rfl, _, rfl⟩ <;> rcases k with ⟨rfl, _, rfl⟩ | ⟨rfl, _, rfl⟩ <;> simp [Int.mul_neg, Int.neg_mul]

theorem div_yes {a b : Int} (h : divOk a b = true) : divV a b = fitV ((a * 65536).fdiv b) ∧ divE a b = fitE ((a * 65536).fdiv b) := by
  unfold divV divE; rw [if_pos h, if_pos h]; exact ⟨rfl, rfl⟩
theorem div_no {a b : Int} (h : divOk a b = false) : divV a b = 0 ∧ divE a b = 1 := by
  have h' : ¬ divOk a b = true := by rw [h]; decide
  unfold divV divE; rw [if_neg h', if_neg h']; exact ⟨rfl, rfl⟩

theorem mag_div {a b x y q r : Int} {s t : Bool} (hb : b ≠ 0) (h : Mag a x s) (k : Mag b y t) (hd : DigB x y q r 16) :
    flo q (r != 0) (!s == t) = (a * 65536).fdiv b := by
  have hy : 0 < y := by rcases k with ⟨_, h, rfl⟩ | ⟨_, h, rfl⟩ <;> omega
  obtain ⟨rfl, rfl⟩ := dig_end hy hd
  rcases h with ⟨rfl, _, rfl⟩ | ⟨rfl, _, rfl⟩ <;> rcases k with ⟨rfl, _, rfl⟩ | ⟨rfl, _, rfl⟩
  · rw [show (!true == true) = false by rfl, flo_pos _ _ hy, Int.neg_mul, Int.neg_fdiv_neg]
  · rw [show (!true == false) = true by rfl, flo_neg _ _ hy, Int.neg_mul, Int.neg_neg]
  · rw [show (!false == true) = true by rfl, flo_neg _ _ hy, ← Int.neg_fdiv_neg, Int.neg_neg, Int.neg_neg]
  · rw [show (!false == false) = false by rfl, flo_pos _ _ hy]

end Go.Proofs.Ytiniflddgnbngaa
