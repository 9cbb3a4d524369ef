/-
  6 texts in one file, each with its own heading.
-/
import Derived.Test.YtcpgkkphibhdfaaGreatRows
import Derived.WalkKit
import Derived.WalkSpells
import Derived.WalkLawsBesides
import Derived.BigQuiet
import Derived.Lib.Hide
import Derived.Below
import Derived.OpenShut
/-
  What the leaves of package fix, and of its reference, answer: each returns what its plain Lean function says, and leaves all memory that was there as it was.
-/
namespace Go.Proofs.YtcpgkkphibhdfaaGreat
open Go.RowKit

/-- may a number be? -/
def okB (x : Int) : Bool := decide (-2147483648 ≤ x ∧ x ≤ 2147483647)
def rightB (zs : List Int) : Bool := zs.all okB

/-- a slice of integers of 64 bits whose elements are 'zs' -/
def Row (w : World) (a : Option Addr) (len : Nat) (zs : List Int) : Prop :=
  zs.length = len ∧ len ≤ 9223372036854775807 ∧ (len = 0 ∨ ∃ b off, a = some ⟨b, off, none⟩ ∧ ∀ i, i < len → w.cell? ⟨b, off + i, none⟩ = some (.int .i64 (zs.getD i 0)))

theorem rightB_take_succ (zs : List Int) (k : Nat) (h : k < zs.length) : rightB (zs.take (k + 1)) = (rightB (zs.take k) && okB (zs.getD k 0)) := by
  unfold rightB
  rw [List.take_add_one, List.all_append]
  simp [List.getD, List.getElem?_eq_getElem h]

theorem rightB_bad (zs : List Int) (k : Nat) (h : k < zs.length) (hb : okB (zs.getD k 0) = false) : rightB zs = false := by
  unfold rightB
  rw [List.all_eq_false]
  refine ⟨zs.getD k 0, ?_, by rw [hb]; decide⟩
  simp only [List.getD, List.getElem?_eq_getElem h, Option.getD_some]
  exact List.getElem_mem h

theorem ret_bool {a b : Bool} (h : a = b) : Ending.returned (.bool a) = .returned (.bool b) := by rw [h]
theorem ret_int {k : IntKind} {a b : Int} (h : a = b) : Ending.returned (.int k a) = .returned (.int k b) := by rw [h]
theorem okB_lo {x : Int} (h : x < -2147483648) : okB x = false := by unfold okB; rw [decide_eq_false_iff_not]; omega
theorem okB_hi {x : Int} (h : 2147483647 < x) : okB x = false := by unfold okB; rw [decide_eq_false_iff_not]; omega
theorem okB_yes {x : Int} (h : -2147483648 ≤ x) (h2 : x ≤ 2147483647) : okB x = true := by unfold okB; rw [decide_eq_true_iff]; omega
theorem okB_iff {x : Int} : okB x = true ↔ (-2147483648 ≤ x ∧ x ≤ 2147483647) := by unfold okB; simp

set_option maxHeartbeats 400000 in
theorem right_empty (a : Option Addr) (cap : Nat) (w : World) :
    Calls Tryz.prog 134 #[.slice a 0 cap] w fun e w' => e = .returned (.bool true) ∧ w = w' := by
  go_enter Tryz.func134, Tryz.ntmps134
  go_wp2
  go_loop [7] (fun i => i = .int .i64 0) (fun _ => 0)
  case atStart => rfl
  case round =>
    obtain rfl := hrel
    go_wp2
    go_ret
    exact ⟨rfl, rfl⟩

set_option maxHeartbeats 400000 in
theorem right_row (b off len cap : Nat) (zs : List Int) (w : World) (hl : zs.length = len) (hbig : len ≤ 9223372036854775807) (hc : ∀ j, j < len → w.cell? ⟨b, off + j, none⟩ = some (.int .i64 (zs.getD j 0))) :
    Calls Tryz.prog 134 #[.slice (some ⟨b, off, none⟩) len cap] w fun e w' => e = .returned (.bool (rightB zs)) ∧ w = w' := by
  have HL := Lib.hid hl
  have HC := Lib.hid hc
  clear hl hc
  go_enter Tryz.func134, Tryz.ntmps134
  go_wp2
  go_loop [7] (fun i => ∃ k : Nat, k ≤ len ∧ i = .int .i64 k ∧ rightB (zs.take k) = true) (fun i => len - (intOf i).toNat)
  case atStart => exact ⟨0, Nat.zero_le _, rfl, rfl⟩
  case round =>
    obtain ⟨k, hk, rfl, hr⟩ := hrel
    have HR := Lib.hid hr
    clear hr
    by_cases hlt : k < len
    · have hk' : k < zs.length := by rw [HL.out]; exact hlt
      obtain ⟨x, hx⟩ : ∃ x, x = zs.getD k 0 := ⟨_, rfl⟩
      have hcell := HC.out k hlt
      have H1 := Lib.hid (rightB_take_succ zs k hk')
      have H2 := Lib.hid (rightB_bad zs k hk')
      rw [← hx] at hcell
      rw [← hx] at H1 H2
      clear hx hk'
      by_cases hlo : x < -2147483648
      · go_wp2
        go_ret
        exact ⟨ret_bool (H2.out (okB_lo hlo)).symm, rfl⟩
      · by_cases hhi : 2147483647 < x
        · go_wp2
          go_ret
          exact ⟨ret_bool (H2.out (okB_hi hhi)).symm, rfl⟩
        · go_wp2
          go_round
          case rel => exact ⟨k + 1, by omega, by go_num, by rw [H1.out, HR.out, okB_yes (by omega) (by omega)]; rfl⟩
          case measure => simp [intOf]; omega
    · go_wp2
      go_ret
      have e : zs.take k = zs := List.take_of_length_le (by rw [HL.out]; omega)
      exact ⟨ret_bool (by rw [← HR.out, e]), rfl⟩

theorem right_any (a : Option Addr) (len cap : Nat) (zs : List Int) (w : World) (h : Row w a len zs) :
    Calls Tryz.prog 134 #[.slice a len cap] w fun e w' => e = .returned (.bool (rightB zs)) ∧ w = w' := by
  obtain ⟨hl, hm, h0 | ⟨b, off, rfl, hc⟩⟩ := h
  · subst h0
    obtain rfl := List.eq_nil_of_length_eq_zero hl
    exact right_empty a cap w
  · exact right_row b off len cap zs w hl hm hc

end Go.Proofs.YtcpgkkphibhdfaaGreat
/-
  What package fix's functions of one and two numbers answer: each returns what its plain Lean function says, and leaves all memory that was there as it was.
-/
namespace Go.Proofs.YtcpgkkphibhdfaaGreat
open Go.RowKit

theorem row1 (w : World) (x : Int) (t : TypeId) : Row (w.alloc (.cells #[.int .i64 x] t)) (some ⟨w.heap.size, 0, none⟩) 1 [x] := by
  refine ⟨rfl, by omega, Or.inr ⟨_, _, rfl, fun i hi => ?_⟩⟩
  obtain rfl : i = 0 := by omega
  simp [List.getD]

theorem row2 (w : World) (x y : Int) (t : TypeId) : Row (w.alloc (.cells #[.int .i64 x, .int .i64 y] t)) (some ⟨w.heap.size, 0, none⟩) 2 [x, y] := by
  refine ⟨rfl, by omega, Or.inr ⟨_, _, rfl, fun i hi => ?_⟩⟩
  obtain rfl | rfl : i = 0 ∨ i = 1 := by omega
  · simp [List.getD]
  · simp [List.getD]

/-- the same, the block's number spelt by the caller -/
theorem row1At (w : World) (x : Int) (t : TypeId) (N : Nat) (hN : w.heap.size = N) : Row (w.alloc (.cells #[.int .i64 x] t)) (some ⟨N, 0, none⟩) 1 [x] := by
  subst hN; exact row1 w x t
theorem row2At (w : World) (x y : Int) (t : TypeId) (N : Nat) (hN : w.heap.size = N) : Row (w.alloc (.cells #[.int .i64 x, .int .i64 y] t)) (some ⟨N, 0, none⟩) 2 [x, y] := by
  subst hN; exact row2 w x y t

theorem rightB1 (x : Int) : rightB [x] = okB x := by simp [rightB]
theorem rightB2 (x y : Int) : rightB [x, y] = (okB x && okB y) := by simp [rightB]

def fitV (x : Int) : Int := if okB x then x else 0
def fitE (x : Int) : Int := if okB x then 0 else 6

theorem alloc_below (w : World) (o : Obj) : Below w.heap.size w (w.alloc o) := (Below.refl _ _).alloc (Nat.le_refl _) o

theorem bthen {w a b : World} (h : Below w.heap.size w a) (k : Below a.heap.size a b) : Below w.heap.size w b := h.trans (k.mono h.size)
theorem balloc {w a : World} (h : Below w.heap.size w a) (o : Obj) : Below w.heap.size w (a.alloc o) := h.alloc h.size o
/-- behind a new block -/
theorem bafter {w a b : World} {o : Obj} (h : Below w.heap.size w a) (k : Below (a.heap.size + 1) (a.alloc o) b) : Below w.heap.size w b := (balloc h o).trans (k.mono (Nat.le_succ_of_le h.size))

end Go.Proofs.YtcpgkkphibhdfaaGreat
/-
  Plain arithmetic for package fix: floors of products and quotients.
-/
namespace Go.Proofs.YtcpgkkphibhdfaaGreat
set_option linter.unusedVariables false

theorem fdiv_pos (a b q : Int) (hb : 0 < b) (h1 : b * q ≤ a) (h2 : a < b * q + b) : a.fdiv b = q := by
  rw [Int.fdiv_eq_ediv_of_nonneg _ (Int.le_of_lt hb)]
  have h3 : q ≤ a / b := (Int.le_ediv_iff_mul_le hb).2 (by rw [Int.mul_comm]; exact h1)
  have h4 : a / b < q + 1 := (Int.ediv_lt_iff_lt_mul hb).2 (by rw [Int.mul_comm, Int.mul_add]; omega)
  omega

theorem fdiv_neg (a b q : Int) (hb : b < 0) (h1 : a ≤ b * q) (h2 : b * q + b < a) : a.fdiv b = q := by
  rw [← Int.neg_fdiv_neg]
  exact fdiv_pos (-a) (-b) q (by omega) (by rw [Int.neg_mul]; omega) (by rw [Int.neg_mul]; omega)

theorem fdiv_uniq (a b q r : Int) (hb : b ≠ 0) (h : a = b * q + r) (hr : (0 < b ∧ 0 ≤ r ∧ r < b) ∨ (b < 0 ∧ b < r ∧ r ≤ 0)) : a.fdiv b = q := by
  rcases hr with ⟨h0, h1, h2⟩ | ⟨h0, h1, h2⟩
  · exact fdiv_pos a b q h0 (by omega) (by omega)
  · exact fdiv_neg a b q h0 (by omega) (by omega)

theorem tmod_facts (a b : Int) (hb : b ≠ 0) : a = b * a.tdiv b + a.tmod b ∧ (0 < b → a.tmod b < b ∧ -b < a.tmod b) ∧ (b < 0 → a.tmod b < -b ∧ b < a.tmod b) := by
  have h := Int.mul_tdiv_add_tmod a b
  refine ⟨h.symm, fun h0 => ⟨Int.tmod_lt_of_pos a h0, ?_⟩, fun h0 => ?_⟩
  · have := Int.tmod_lt_of_pos (-a) h0
    rw [Int.neg_tmod] at this
    omega
  · have h1 := Int.tmod_lt_of_pos a (show 0 < -b by omega)
    have h2 := Int.tmod_lt_of_pos (-a) (show 0 < -b by omega)
    rw [Int.neg_tmod] at h2
    rw [Int.tmod_neg] at h1 h2
    omega

theorem fdiv_keep (a b : Int) (hb : b ≠ 0) (h : a.tmod b = 0 ∨ (a.tmod b < 0 ∧ b < 0) ∨ (0 ≤ a.tmod b ∧ 0 ≤ b)) : a.fdiv b = a.tdiv b := by
  obtain ⟨h1, h2, h3⟩ := tmod_facts a b hb
  rcases Int.lt_or_gt_of_ne hb with h0 | h0
  · have := h3 h0
    exact fdiv_uniq a b _ _ hb h1 (Or.inr ⟨h0, by omega, by omega⟩)
  · have := h2 h0
    exact fdiv_uniq a b _ _ hb h1 (Or.inl ⟨h0, by omega, by omega⟩)

theorem fdiv_less (a b : Int) (hb : b ≠ 0) (h0' : a.tmod b ≠ 0) (h : (a.tmod b < 0 ∧ 0 ≤ b) ∨ (0 ≤ a.tmod b ∧ b < 0)) : a.fdiv b = a.tdiv b - 1 := by
  obtain ⟨h1, h2, h3⟩ := tmod_facts a b hb
  have e : a = b * (a.tdiv b - 1) + (a.tmod b + b) := by rw [Int.mul_sub]; omega
  rcases Int.lt_or_gt_of_ne hb with h0 | h0
  · have := h3 h0
    exact fdiv_uniq a b _ _ hb e (Or.inr ⟨h0, by omega, by omega⟩)
  · have := h2 h0
    exact fdiv_uniq a b _ _ hb e (Or.inl ⟨h0, by omega, by omega⟩)

/-- what the reference makes of a magnitude's whole part: dropped downwards -/
def flo (q : Int) (rest below : Bool) : Int := if below then (if rest then -q - 1 else -q) else q

theorem flo_pos (x : Int) (m : Int) (hm : 0 < m) : flo (x / m) (x % m != 0) false = x.fdiv m := by
  rw [Int.fdiv_eq_ediv_of_nonneg _ (Int.le_of_lt hm)]; rfl

theorem flo_neg (x : Int) (m : Int) (hm : 0 < m) : flo (x / m) (x % m != 0) true = (-x).fdiv m := by
  have h := Int.mul_ediv_add_emod x m
  have h1 := Int.emod_nonneg x (show m ≠ 0 by omega)
  have h2 := Int.emod_lt_of_pos x hm
  unfold flo
  rw [if_pos rfl]
  by_cases e : x % m = 0
  · have e' : (x % m != 0) = false := by simp [e]
    rw [e']
    refine (fdiv_pos _ _ _ hm ?_ ?_).symm <;> rw [if_neg (by decide), Int.mul_neg] <;> omega
  · have e' : (x % m != 0) = true := by simp [e]
    rw [e']
    refine (fdiv_pos _ _ _ hm ?_ ?_).symm <;> rw [if_pos rfl, Int.mul_sub, Int.mul_neg] <;> omega

/-- the product by halves of 16 places -/
theorem halves (x y : Int) : x / 65536 * y + x % 65536 * y / 65536 = x * y / 65536 ∧ x % 65536 * y % 65536 = x * y % 65536 := by
  have h : x * y = x % 65536 * y + 65536 * (x / 65536 * y) := by
    have := Int.mul_ediv_add_emod x 65536
    calc x * y = (65536 * (x / 65536) + x % 65536) * y := by rw [this]
      _ = _ := by rw [Int.add_mul, Int.mul_assoc]; omega
  rw [h, Int.add_mul_ediv_left _ _ (by decide), Int.add_mul_emod_self_left]
  omega

theorem fdiv_65536 (x : Int) : x.fdiv 65536 = x / 65536 := Int.fdiv_eq_ediv_of_nonneg _ (by decide)

/-- the quotient digit by digit: behind k digits -/
def DigB (x y q r : Int) (k : Nat) : Prop := 0 ≤ q ∧ 0 ≤ r ∧ r < y ∧ y * q + r = x * 2 ^ k

theorem dig_start (x y : Int) (hx : 0 ≤ x) (hy : 0 < y) : DigB x y (x / y) (x % y) 0 :=
  ⟨Int.ediv_nonneg hx (Int.le_of_lt hy), Int.emod_nonneg x (by omega), Int.emod_lt_of_pos x hy, by rw [Int.mul_ediv_add_emod]; omega⟩

theorem dig_low {x y q r : Int} {k : Nat} (h : DigB x y q r k) (hr : 2 * r < y) : DigB x y (2 * q) (2 * r) (k + 1) := by
  obtain ⟨h1, h2, h3, h4⟩ := h
  refine ⟨by omega, by omega, hr, ?_⟩
  have e : x * 2 ^ (k + 1) = 2 * (x * 2 ^ k) := by rw [Int.pow_succ, ← Int.mul_assoc, Int.mul_comm]
  rw [e, ← h4, Int.mul_left_comm]
  omega

theorem dig_high {x y q r : Int} {k : Nat} (h : DigB x y q r k) (hr : y ≤ 2 * r) : DigB x y (2 * q + 1) (2 * r - y) (k + 1) := by
  obtain ⟨h1, h2, h3, h4⟩ := h
  refine ⟨by omega, by omega, by omega, ?_⟩
  rw [Int.pow_succ, ← Int.mul_assoc, ← h4, Int.add_mul, Int.mul_add, Int.mul_left_comm]
  omega

theorem dig_end {x y q r : Int} (hy : 0 < y) (h : DigB x y q r 16) : q = x * 65536 / y ∧ r = x * 65536 % y := by
  obtain ⟨h1, h2, h3, h4⟩ := h
  have e : x * 65536 = r + y * q := by rw [show (65536 : Int) = 2 ^ 16 by decide, ← h4]; omega
  rw [e, Int.add_mul_ediv_left _ _ (by omega), Int.add_mul_emod_self_left, Int.ediv_eq_zero_of_lt h2 h3, Int.emod_eq_of_lt h2 h3]
  omega

theorem dig_bd {x y q r : Int} {k : Nat} (hk : k ≤ 16) (hx : x ≤ 2147483648) (hx0 : 0 ≤ x) (hy : 0 < y) (h : DigB x y q r k) : q ≤ 140737488355328 := by
  obtain ⟨h1, h2, h3, h4⟩ := h
  have h5 : q ≤ y * q := by
    have := Int.mul_le_mul_of_nonneg_right (show (1 : Int) ≤ y by omega) h1
    omega
  have h6 : (2 : Int) ^ k ≤ 2 ^ 16 := by have := Nat.pow_le_pow_right (n := 2) (by omega) hk; exact_mod_cast this
  have h7 : x * 2 ^ k ≤ x * 2 ^ 16 := Int.mul_le_mul_of_nonneg_left h6 hx0
  omega

end Go.Proofs.YtcpgkkphibhdfaaGreat
/-
  What package fix's functions of one and two numbers answer (second part).
-/
namespace Go.Proofs.YtcpgkkphibhdfaaGreat
open Go.RowKit

theorem mul_bound {a b : Int} (ha : okB a = true) (hb : okB b = true) : -4611686018427387904 ≤ a * b ∧ a * b ≤ 4611686018427387904 := by
  rw [okB_iff] at ha hb
  have h : (a * b).natAbs ≤ 2147483648 * 2147483648 := by
    rw [Int.natAbs_mul]
    exact Nat.mul_le_mul (by omega) (by omega)
  omega

def mulV (a b : Int) : Int := if okB a && okB b then fitV (a * b / 65536) else 0
def mulE (a b : Int) : Int := if okB a && okB b then fitE (a * b / 65536) else 1

theorem below_drewN (w : World) (n : Nat) : Below w.heap.size w (w.drewN n) := Go.below_drewN (Below.refl _ _) n

theorem signs_ne {x y : Int} (h : (!decide (x < 0) == decide (y < 0)) = true) : (x < 0 ∧ 0 ≤ y) ∨ (0 ≤ x ∧ y < 0) := by
  by_cases h1 : x < 0 <;> by_cases h2 : y < 0 <;> simp [h1, h2] at h ⊢ <;> omega
theorem signs_eq {x y : Int} (h : (!decide (x < 0) == decide (y < 0)) = false) : (x < 0 ∧ y < 0) ∨ (0 ≤ x ∧ 0 ≤ y) := by
  by_cases h1 : x < 0 <;> by_cases h2 : y < 0 <;> simp [h1, h2] at h ⊢ <;> omega

def divOk (a b : Int) : Bool := okB a && okB b && b != 0
def divV (a b : Int) : Int := if divOk a b then fitV ((a * 65536).fdiv b) else 0
def divE (a b : Int) : Int := if divOk a b then fitE ((a * 65536).fdiv b) else 1

theorem tdiv_bound (x b : Int) (h1 : -140737488355328 ≤ x) (h2 : x ≤ 140737488355328) : -140737488355328 ≤ x.tdiv b ∧ x.tdiv b ≤ 140737488355328 := by
  have h : (x.tdiv b).natAbs ≤ x.natAbs := by rw [Int.natAbs_tdiv]; exact Nat.div_le_self _ _
  omega

def negV (a : Int) : Int := if okB a then fitV (-a) else 0
def negE (a : Int) : Int := if okB a then fitE (-a) else 1

def ofB (n : Int) : Bool := decide (-32768 ≤ n ∧ n ≤ 32767)
def ofV (n : Int) : Int := if ofB n then n * 65536 else 0
def ofE (n : Int) : Int := if ofB n then 0 else 6

end Go.Proofs.YtcpgkkphibhdfaaGreat
/-
  What package fix's sum answers, and that of its reference; whether numbers may be, by the reference.
-/
namespace Go.Proofs.YtcpgkkphibhdfaaGreat
open Go.RowKit

/-! plain facts on sums -/
theorem okB_getD (zs : List Int) (k : Nat) (h : rightB zs = true) (hk : k < zs.length) : -2147483648 ≤ zs.getD k 0 ∧ zs.getD k 0 ≤ 2147483647 := by
  unfold rightB at h
  rw [List.all_eq_true] at h
  have hm : zs.getD k 0 ∈ zs := by
    simp only [List.getD, List.getElem?_eq_getElem hk, Option.getD_some]
    exact List.getElem_mem hk
  exact okB_iff.1 (h _ hm)

theorem sum_succ (zs : List Int) (k : Nat) (h : k < zs.length) : (zs.take (k + 1)).sum = (zs.take k).sum + zs.getD k 0 := by
  rw [List.take_add_one, List.sum_append]
  simp [List.getD, List.getElem?_eq_getElem h]

theorem sum_bd (zs : List Int) (h : rightB zs = true) : ∀ k : Nat, k ≤ zs.length → -2147483648 * (k : Int) ≤ (zs.take k).sum ∧ (zs.take k).sum ≤ 2147483648 * (k : Int)
  | 0, _ => by simp
  | k + 1, hk => by
    have ih := sum_bd zs h k (by omega)
    have hb := okB_getD zs k h (by omega)
    rw [sum_succ zs k (by omega)]
    omega

def addOk (zs : List Int) : Bool := decide (zs.length ≤ 1024) && rightB zs
def addV (zs : List Int) : Int := if addOk zs then fitV zs.sum else 0
def addE (zs : List Int) : Int := if addOk zs then fitE zs.sum else 1

theorem addOk_many {zs : List Int} {len : Nat} (hl : zs.length = len) (h : 1024 < len) : addOk zs = false := by
  unfold addOk; rw [decide_eq_false (by omega)]; rfl
theorem addOk_wrong {zs : List Int} (h : rightB zs = false) : addOk zs = false := by unfold addOk; rw [h, Bool.and_false]
theorem addOk_yes {zs : List Int} {len : Nat} (hl : zs.length = len) (h : len ≤ 1024) (hr : rightB zs = true) : addOk zs = true := by
  unfold addOk; rw [decide_eq_true (by omega), hr]; rfl
theorem addV_no {zs : List Int} (h : addOk zs = false) : addV zs = 0 := by unfold addV; rw [if_neg (by rw [h]; decide)]
theorem addE_no {zs : List Int} (h : addOk zs = false) : addE zs = 1 := by unfold addE; rw [if_neg (by rw [h]; decide)]
theorem addV_yes {zs : List Int} (h : addOk zs = true) : addV zs = fitV zs.sum := by unfold addV; rw [if_pos h]
theorem addE_yes {zs : List Int} (h : addOk zs = true) : addE zs = fitE zs.sum := by unfold addE; rw [if_pos h]

/-! the reference -/
set_option maxHeartbeats 400000 in
theorem one_any (x : Int) (w : World) :
    Calls Tryz.prog 163 #[.int .i64 x] w fun e w' => e = .returned (.bool (okB x)) ∧ w = w' := by
  by_cases h1 : -2147483648 ≤ x
  · by_cases h2 : x ≤ 2147483647
    · rw [okB_yes h1 h2]
      go_enter Tryz.func163, Tryz.ntmps163
      go_wp2
      go_ret
      exact ⟨rfl, rfl⟩
    · rw [okB_hi (by omega)]
      go_enter Tryz.func163, Tryz.ntmps163
      go_wp2
      go_ret
      exact ⟨rfl, rfl⟩
  · rw [okB_lo (by omega)]
    go_enter Tryz.func163, Tryz.ntmps163
    go_wp2
    go_ret
    exact ⟨rfl, rfl⟩

set_option maxHeartbeats 400000 in
theorem rright_empty (a : Option Addr) (cap : Nat) (w : World) :
    Calls Tryz.prog 132 #[.slice a 0 cap] w fun e w' => e = .returned (.bool true) ∧ w = w' := by
  go_enter Tryz.func132, Tryz.ntmps132
  go_wp2
  go_loop [3] (fun i => i = .int .i64 0) (fun _ => 0)
  case atStart => rfl
  case round =>
    obtain rfl := hrel
    go_wp2
    go_ret
    exact ⟨rfl, rfl⟩

set_option maxHeartbeats 400000 in
theorem rright_row (b off len cap : Nat) (zs : List Int) (w : World) (hl : zs.length = len) (hbig : len ≤ 9223372036854775807) (hc : ∀ j, j < len → w.cell? ⟨b, off + j, none⟩ = some (.int .i64 (zs.getD j 0))) :
    Calls Tryz.prog 132 #[.slice (some ⟨b, off, none⟩) len cap] w fun e w' => e = .returned (.bool (rightB zs)) ∧ w = w' := by
  have HL := Lib.hid hl
  have HC := Lib.hid hc
  clear hl hc
  go_enter Tryz.func132, Tryz.ntmps132
  go_wp2
  go_loop [3] (fun i => ∃ k : Nat, k ≤ len ∧ i = .int .i64 k ∧ rightB (zs.take k) = true) (fun i => len - (intOf i).toNat)
  case atStart => exact ⟨0, Nat.zero_le _, rfl, rfl⟩
  case round =>
    obtain ⟨k, hk, rfl, hr⟩ := hrel
    have HR := Lib.hid hr
    clear hr
    by_cases hlt : k < len
    · have hk' : k < zs.length := by rw [HL.out]; exact hlt
      obtain ⟨x, hx⟩ : ∃ x, x = zs.getD k 0 := ⟨_, rfl⟩
      have hcell := HC.out k hlt
      have H1 := Lib.hid (rightB_take_succ zs k hk')
      have H2 := Lib.hid (rightB_bad zs k hk')
      rw [← hx] at hcell
      rw [← hx] at H1 H2
      clear hx hk'
      by_cases hok : okB x = true
      · go_wp2_with (go_at_call 163; refine (one_any _ _).mono ?_; rintro e w' ⟨rfl, rfl⟩)
        go_round
        case rel => exact ⟨k + 1, by omega, by go_num, by rw [H1.out, HR.out, hok]; rfl⟩
        case measure => simp [intOf]; omega
      · have hok' : okB x = false := by simpa using hok
        clear hok
        go_wp2_with (go_at_call 163; refine (one_any _ _).mono ?_; rintro e w' ⟨rfl, rfl⟩)
        go_ret
        exact ⟨ret_bool (H2.out hok').symm, rfl⟩
    · go_wp2
      go_ret
      have e : zs.take k = zs := List.take_of_length_le (by rw [HL.out]; omega)
      exact ⟨ret_bool (by rw [← HR.out, e]), rfl⟩

theorem rright_any (a : Option Addr) (len cap : Nat) (zs : List Int) (w : World) (h : Row w a len zs) :
    Calls Tryz.prog 132 #[.slice a len cap] w fun e w' => e = .returned (.bool (rightB zs)) ∧ w = w' := by
  obtain ⟨hl, hm, h0 | ⟨b, off, rfl, hc⟩⟩ := h
  · subst h0
    obtain rfl := List.eq_nil_of_length_eq_zero hl
    exact rright_empty a cap w
  · exact rright_row b off len cap zs w hl hm hc

end Go.Proofs.YtcpgkkphibhdfaaGreat
/-
  What the reference's functions of one and two numbers answer: the same plain Lean functions as package fix's.
-/
namespace Go.Proofs.YtcpgkkphibhdfaaGreat
open Go.RowKit

theorem ediv_keep {x : Int} (h : ¬ x < x.tdiv 65536 * 65536) : x / 65536 = x.tdiv 65536 := by
  obtain ⟨h1, h2, _⟩ := tmod_facts x 65536 (by decide)
  have := h2 (by decide)
  omega
theorem ediv_less {x : Int} (h : x < x.tdiv 65536 * 65536) : x / 65536 = x.tdiv 65536 - 1 := by
  obtain ⟨h1, h2, _⟩ := tmod_facts x 65536 (by decide)
  have := h2 (by decide)
  omega
theorem tdiv_bd (x : Int) (h1 : -9223372036854775808 ≤ x) (h2 : x ≤ 9223372036854775807) :
    -140737488355328 ≤ x.tdiv 65536 ∧ x.tdiv 65536 ≤ 140737488355328 ∧ -9223372036854775808 ≤ x.tdiv 65536 * 65536 ∧ x.tdiv 65536 * 65536 ≤ 9223372036854775807 := by
  by_cases h : 0 ≤ x
  · rw [Int.tdiv_eq_ediv_of_nonneg h]
    omega
  · have e : x.tdiv 65536 = -((-x) / 65536) := by rw [← Int.tdiv_eq_ediv_of_nonneg (show 0 ≤ -x by omega), Int.neg_tdiv, Int.neg_neg]
    rw [e]
    omega

theorem pair_eq {a b c d : Int} (h1 : a = b) (h2 : c = d) : Ending.returned (.tuple #[.int .i64 a, .int .i64 c]) = .returned (.tuple #[.int .i64 b, .int .i64 d]) := by rw [h1, h2]

theorem mul_yes {a b : Int} (h : (okB a && okB b) = true) : mulV a b = fitV (a * b / 65536) ∧ mulE a b = fitE (a * b / 65536) := by
  unfold mulV mulE; rw [if_pos h, if_pos h]; exact ⟨rfl, rfl⟩
theorem mul_no {a b : Int} (h : (okB a && okB b) = false) : mulV a b = 0 ∧ mulE a b = 1 := by
  have h' : ¬ (okB a && okB b) = true := by rw [h]; decide
  unfold mulV mulE; rw [if_neg h', if_neg h']; exact ⟨rfl, rfl⟩

/-- what the walk hands to the reference's last step -/
theorem half_flo (x y : Int) (below : Bool) : flo (x / 65536 * y + x % 65536 * y / 65536) (x % 65536 * y % 65536 != 0) below = if below then (-(x * y)) / 65536 else x * y / 65536 := by
  obtain ⟨h1, h2⟩ := halves x y
  rw [h1, h2]
  cases below
  · rw [flo_pos _ _ (by decide), fdiv_65536]; rfl
  · rw [flo_neg _ _ (by decide), fdiv_65536]; rfl

theorem half_bd (x y : Int) (hx : 0 ≤ x) (hx2 : x ≤ 2147483648) (hy : 0 ≤ y) (hy2 : y ≤ 2147483648) :
    0 ≤ x % 65536 * y ∧ x % 65536 * y ≤ 140737488355328 ∧ 0 ≤ x / 65536 * y ∧ x / 65536 * y ≤ 140737488355328 := by
  have a1 := Int.mul_nonneg (show 0 ≤ x % 65536 by omega) hy
  have a2 := Int.mul_nonneg (show 0 ≤ x / 65536 by omega) hy
  have a3 : x % 65536 * y ≤ 65536 * 2147483648 := Int.mul_le_mul (by omega) hy2 hy (by omega)
  have a4 : x / 65536 * y ≤ 65536 * 2147483648 := Int.mul_le_mul (by omega) hy2 hy (by omega)
  omega

/-- a magnitude, and whether the number is below 0 -/
def Mag (a x : Int) (s : Bool) : Prop := (s = true ∧ a < 0 ∧ x = -a) ∨ (s = false ∧ 0 ≤ a ∧ x = a)

theorem mag_of (a : Int) : ∃ x s, Mag a x s := by
  by_cases h : a < 0
  · exact ⟨-a, true, Or.inl ⟨rfl, h, rfl⟩⟩
  · exact ⟨a, false, Or.inr ⟨rfl, by omega, rfl⟩⟩

theorem mag_bd {a x : Int} {s : Bool} (h : Mag a x s) (h1 : -2147483648 ≤ a) (h2 : a ≤ 2147483647) : 0 ≤ x ∧ x ≤ 2147483648 := by
  rcases h with ⟨_, h, rfl⟩ | ⟨_, h, rfl⟩ <;> omega

theorem mag_mul {a b x y : Int} {s t : Bool} (h : Mag a x s) (k : Mag b y t) :
    flo (x / 65536 * y + x % 65536 * y / 65536) (x % 65536 * y % 65536 != 0) (!s == t) = a * b / 65536 := by
  rw [half_flo]
  rcases h with ⟨rfl, _, rfl⟩ | ⟨rfl, _, rfl⟩ <;> rcases k with ⟨rfl, _, rfl⟩ | ⟨rfl, _, rfl⟩ <;> simp [Int.mul_neg, Int.neg_mul]

theorem div_yes {a b : Int} (h : divOk a b = true) : divV a b = fitV ((a * 65536).fdiv b) ∧ divE a b = fitE ((a * 65536).fdiv b) := by
  unfold divV divE; rw [if_pos h, if_pos h]; exact ⟨rfl, rfl⟩
theorem div_no {a b : Int} (h : divOk a b = false) : divV a b = 0 ∧ divE a b = 1 := by
  have h' : ¬ divOk a b = true := by rw [h]; decide
  unfold divV divE; rw [if_neg h', if_neg h']; exact ⟨rfl, rfl⟩

theorem mag_div {a b x y q r : Int} {s t : Bool} (hb : b ≠ 0) (h : Mag a x s) (k : Mag b y t) (hd : DigB x y q r 16) :
    flo q (r != 0) (!s == t) = (a * 65536).fdiv b := by
  have hy : 0 < y := by rcases k with ⟨_, h, rfl⟩ | ⟨_, h, rfl⟩ <;> omega
  obtain ⟨rfl, rfl⟩ := dig_end hy hd
  rcases h with ⟨rfl, _, rfl⟩ | ⟨rfl, _, rfl⟩ <;> rcases k with ⟨rfl, _, rfl⟩ | ⟨rfl, _, rfl⟩
  · rw [show (!true == true) = false by rfl, flo_pos _ _ hy, Int.neg_mul, Int.neg_fdiv_neg]
  · rw [show (!true == false) = true by rfl, flo_neg _ _ hy, Int.neg_mul, Int.neg_neg]
  · rw [show (!false == true) = true by rfl, flo_neg _ _ hy, ← Int.neg_fdiv_neg, Int.neg_neg, Int.neg_neg]
  · rw [show (!false == false) = false by rfl, flo_pos _ _ hy]

end Go.Proofs.YtcpgkkphibhdfaaGreat
