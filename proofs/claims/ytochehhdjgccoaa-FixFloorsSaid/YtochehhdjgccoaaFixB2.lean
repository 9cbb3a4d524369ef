/-
  What package fix's functions of one and two numbers answer (second part).
-/
import Derived.Test.YtochehhdjgccoaaFixB
import Derived.Test.YtochehhdjgccoaaFixM
namespace Go.Proofs.Ytochehhdjgccoaa
open Go.RowKit

theorem mul_bound {a b : Int} (ha : okB a = true) (hb : okB b = true) : -4611686018427387904 ≤ a * b ∧ a * b ≤ 4611686018427387904 := by
  rw [okB_iff] at ha hb
  have h : (a * b).natAbs ≤ 2147483648 * 2147483648 := by
    rw [Int.natAbs_mul]
    exact Nat.mul_le_mul (by omega) (by omega)
  omega

def mulV (a b : Int) : Int := if okB a && okB b then fitV (a * b / 65536) else 0
def mulE (a b : Int) : Int := if okB a && okB b then fitE (a * b / 65536) else 1

set_option maxHeartbeats 400000 in
theorem mul_any (a b : Int) (w : World) :
    Calls Try.prog 13 #[.int .i64 a, .int .i64 b] w fun e w' => e = .returned (.tuple #[.int .i64 (mulV a b), .int .i64 (mulE a b)]) ∧ Below w.heap.size w w' := by
  by_cases h : (okB a && okB b) = true
  · have e1 : mulV a b = fitV (a * b / 65536) := by unfold mulV; rw [if_pos h]
    have e2 : mulE a b = fitE (a * b / 65536) := by unfold mulE; rw [if_pos h]
    rw [e1, e2]
    clear e1 e2
    have hr : rightB [a, b] = true := by rw [rightB2]; exact h
    obtain ⟨ha, hb⟩ := Bool.and_eq_true_iff.1 h
    obtain ⟨hm1, hm2⟩ := mul_bound ha hb
    clear h ha hb
    go_enter Try.func13, Try.ntmps13
    go_wp2_with (first | (go_at_call 9; refine (right_any _ _ _ [a, b] _ (row2 w a b 23)).mono ?_; rintro e w' ⟨rfl, rfl⟩) | (go_at_call 20; refine (fit_any _ _).mono ?_; rintro e w' ⟨rfl, hb⟩))
    go_ret2
    exact ⟨rfl, (alloc_below w _).trans (hb.mono (by simp))⟩
  · have h' : (okB a && okB b) = false := by simpa using h
    have e1 : mulV a b = 0 := by unfold mulV; rw [if_neg h]
    have e2 : mulE a b = 1 := by unfold mulE; rw [if_neg h]
    rw [e1, e2]
    clear e1 e2
    have hr : rightB [a, b] = false := by rw [rightB2]; exact h'
    clear h h'
    go_enter Try.func13, Try.ntmps13
    go_wp2_with (go_at_call 9; refine (right_any _ _ _ [a, b] _ (row2 w a b 23)).mono ?_; rintro e w' ⟨rfl, rfl⟩)
    go_ret2
    exact ⟨rfl, alloc_below _ _⟩

theorem below_drewN (w : World) (n : Nat) : Below w.heap.size w (w.drewN n) := Go.below_drewN (Below.refl _ _) n

theorem signs_ne {x y : Int} (h : (!decide (x < 0) == decide (y < 0)) = true) : (x < 0 ∧ 0 ≤ y) ∨ (0 ≤ x ∧ y < 0) := by
  by_cases h1 : x < 0 <;> by_cases h2 : y < 0 <;> simp [h1, h2] at h ⊢ <;> omega
theorem signs_eq {x y : Int} (h : (!decide (x < 0) == decide (y < 0)) = false) : (x < 0 ∧ y < 0) ∨ (0 ≤ x ∧ 0 ≤ y) := by
  by_cases h1 : x < 0 <;> by_cases h2 : y < 0 <;> simp [h1, h2] at h ⊢ <;> omega

set_option maxHeartbeats 400000 in
theorem floorDiv_any (a b : Int) (w : World) (hb : b ≠ 0) (hq : -140737488355328 ≤ a.tdiv b) (hq2 : a.tdiv b ≤ 140737488355328) :
    Calls Try.prog 25 #[.int .i64 a, .int .i64 b] w fun e w' => e = .returned (.int .i64 (a.fdiv b)) ∧ Below w.heap.size w w' := by
  have hb0 : (b == 0) = false := by simpa using hb
  have K1 := Lib.hid (fdiv_keep a b hb)
  have K2 := Lib.hid (fdiv_less a b hb)

  by_cases h0 : a.tmod b = 0
  · have h1 : (a.tmod b != 0) = false := by simp [h0]
    have H0 := Lib.hid h0
    clear h0
    go_enter Try.func25, Try.ntmps25
    go_wp2
    go_quiet (fail)
    go_wp2
    go_ret
    exact ⟨ret_int (K1.out (Or.inl H0.out)).symm, below_drewN _ _⟩
  · have h1 : (a.tmod b != 0) = true := by simp [h0]
    have H0 := Lib.hid h0
    clear h0
    go_enter Try.func25, Try.ntmps25
    go_wp2
    go_quiet (fail)
    go_wp2
    · go_ret
      exact ⟨ret_int (K2.out H0.out (signs_ne ‹_›)).symm, below_drewN _ _⟩
    · go_ret
      exact ⟨ret_int (K1.out (Or.inr (signs_eq ‹_›))).symm, below_drewN _ _⟩

def divOk (a b : Int) : Bool := okB a && okB b && b != 0
def divV (a b : Int) : Int := if divOk a b then fitV ((a * 65536).fdiv b) else 0
def divE (a b : Int) : Int := if divOk a b then fitE ((a * 65536).fdiv b) else 1

theorem tdiv_bound (x b : Int) (h1 : -140737488355328 ≤ x) (h2 : x ≤ 140737488355328) : -140737488355328 ≤ x.tdiv b ∧ x.tdiv b ≤ 140737488355328 := by
  have h : (x.tdiv b).natAbs ≤ x.natAbs := by rw [Int.natAbs_tdiv]; exact Nat.div_le_self _ _
  omega

set_option maxHeartbeats 400000 in
theorem div_any (a b : Int) (w : World) :
    Calls Try.prog 15 #[.int .i64 a, .int .i64 b] w fun e w' => e = .returned (.tuple #[.int .i64 (divV a b), .int .i64 (divE a b)]) ∧ Below w.heap.size w w' := by
  by_cases h : divOk a b = true
  · have e1 : divV a b = fitV ((a * 65536).fdiv b) := by unfold divV; rw [if_pos h]
    have e2 : divE a b = fitE ((a * 65536).fdiv b) := by unfold divE; rw [if_pos h]
    rw [e1, e2]
    clear e1 e2
    unfold divOk at h
    rw [Bool.and_eq_true_iff, ← rightB2] at h
    obtain ⟨hr, hb⟩ := h
    have hb0 : (b == 0) = false := by simpa using hb
    have hbn : b ≠ 0 := by simpa using hb
    have ha : -2147483648 ≤ a ∧ a ≤ 2147483647 := by rw [rightB2, Bool.and_eq_true_iff] at hr; exact okB_iff.1 hr.1
    obtain ⟨ha1, ha2⟩ := ha
    obtain ⟨hq1, hq2⟩ := tdiv_bound (a * 65536) b (by omega) (by omega)
    clear hb
    go_enter Try.func15, Try.ntmps15
    go_wp2_with (first | (go_at_call 9; refine (right_any _ _ _ [a, b] _ (row2 w a b 23)).mono ?_; rintro e w' ⟨rfl, rfl⟩) | (go_at_call 25; refine (floorDiv_any _ _ _ hbn hq1 hq2).mono ?_; rintro e w1 ⟨rfl, hb1⟩) | (go_at_call 20; refine (fit_any _ _).mono ?_; rintro e w2 ⟨rfl, hb2⟩))
    go_ret2
    have hz := hb1.size
    exact ⟨rfl, ((alloc_below w _).trans (hb1.mono (by simp))).trans (hb2.mono (by simp at hz; omega))⟩
  · have h' : divOk a b = false := by simpa using h
    have e1 : divV a b = 0 := by unfold divV; rw [if_neg h]
    have e2 : divE a b = 1 := by unfold divE; rw [if_neg h]
    rw [e1, e2]
    clear e1 e2 h
    by_cases hr : rightB [a, b] = true
    · have hb : (b == 0) = true := by
        unfold divOk at h'; rw [← rightB2, hr] at h'; simpa using h'
      clear h'
      go_enter Try.func15, Try.ntmps15
      go_wp2_with (go_at_call 9; refine (right_any _ _ _ [a, b] _ (row2 w a b 23)).mono ?_; rintro e w' ⟨rfl, rfl⟩)
      go_ret2
      exact ⟨rfl, alloc_below _ _⟩
    · have hr' : rightB [a, b] = false := by simpa using hr
      clear h' hr
      go_enter Try.func15, Try.ntmps15
      go_wp2_with (go_at_call 9; refine (right_any _ _ _ [a, b] _ (row2 w a b 23)).mono ?_; rintro e w' ⟨rfl, rfl⟩)
      go_ret2
      exact ⟨rfl, alloc_below _ _⟩

def negV (a : Int) : Int := if okB a then fitV (-a) else 0
def negE (a : Int) : Int := if okB a then fitE (-a) else 1

set_option maxHeartbeats 400000 in
theorem neg_any (a : Int) (w : World) :
    Calls Try.prog 17 #[.int .i64 a] w fun e w' => e = .returned (.tuple #[.int .i64 (negV a), .int .i64 (negE a)]) ∧ Below w.heap.size w w' := by
  by_cases h : okB a = true
  · have e1 : negV a = fitV (-a) := by unfold negV; rw [if_pos h]
    have e2 : negE a = fitE (-a) := by unfold negE; rw [if_pos h]
    rw [e1, e2]
    clear e1 e2
    have hr : rightB [a] = true := by rw [rightB1]; exact h
    obtain ⟨h1, h2⟩ := okB_iff.1 h
    clear h
    go_enter Try.func17, Try.ntmps17
    go_wp2_with (first | (go_at_call 9; refine (right_any _ _ _ [a] _ (row1 w a 23)).mono ?_; rintro e w' ⟨rfl, rfl⟩) | (go_at_call 20; refine (fit_any _ _).mono ?_; rintro e w' ⟨rfl, hb⟩))
    go_ret2
    exact ⟨rfl, (alloc_below w _).trans (hb.mono (by simp))⟩
  · have h' : okB a = false := by simpa using h
    have e1 : negV a = 0 := by unfold negV; rw [if_neg h]
    have e2 : negE a = 1 := by unfold negE; rw [if_neg h]
    rw [e1, e2]
    clear e1 e2
    have hr : rightB [a] = false := by rw [rightB1]; exact h'
    clear h h'
    go_enter Try.func17, Try.ntmps17
    go_wp2_with (go_at_call 9; refine (right_any _ _ _ [a] _ (row1 w a 23)).mono ?_; rintro e w' ⟨rfl, rfl⟩)
    go_ret2
    exact ⟨rfl, alloc_below _ _⟩

def ofB (n : Int) : Bool := decide (-32768 ≤ n ∧ n ≤ 32767)
def ofV (n : Int) : Int := if ofB n then n * 65536 else 0
def ofE (n : Int) : Int := if ofB n then 0 else 6

set_option maxHeartbeats 400000 in
theorem of_any (n : Int) (w : World) :
    Calls Try.prog 18 #[.int .i64 n] w fun e w' => e = .returned (.tuple #[.int .i64 (ofV n), .int .i64 (ofE n)]) ∧ w = w' := by
  by_cases h : ofB n = true
  · have e1 : ofV n = n * 65536 := by unfold ofV; rw [if_pos h]
    have e2 : ofE n = 0 := by unfold ofE; rw [if_pos h]
    rw [e1, e2]
    clear e1 e2
    unfold ofB at h
    rw [decide_eq_true_iff] at h
    obtain ⟨h1, h2⟩ := h
    go_enter Try.func18, Try.ntmps18
    go_wp2
    go_ret2
    exact ⟨rfl, rfl⟩
  · have e1 : ofV n = 0 := by unfold ofV; rw [if_neg h]
    have e2 : ofE n = 6 := by unfold ofE; rw [if_neg h]
    rw [e1, e2]
    clear e1 e2
    unfold ofB at h
    rw [decide_eq_true_iff] at h
    by_cases hlo : n < -32768
    · clear h
      go_enter Try.func18, Try.ntmps18
      go_wp2
      go_ret2
      exact ⟨rfl, rfl⟩
    · have hhi : 32767 < n := by omega
      clear h
      go_enter Try.func18, Try.ntmps18
      go_wp2
      go_ret2
      exact ⟨rfl, rfl⟩

set_option maxHeartbeats 400000 in
theorem floor_any (x : Int) (w : World) :
    Calls Try.prog 11 #[.int .i64 x] w fun e w' => e = .returned (.int .i64 (x / 65536)) ∧ w = w' := by
  go_enter Try.func11, Try.ntmps11
  go_wp2
  go_ret
  exact ⟨rfl, rfl⟩

end Go.Proofs.Ytochehhdjgccoaa
