/-
  7 texts in one file, each with its own heading.
-/
import Derived.Test.YtjcibffhlhdjeaaRows
import Derived.WalkKit
import Derived.WalkSpells
import Derived.WalkLawsBesides
import Derived.BigQuiet
import Derived.Lib.Hide
import Derived.Deep.RegionHeld3
import Derived.Deep.MidRow
import Derived.Below
import Derived.OpenShut
import Derived.LoopN
import Derived.Laws.OwnMore
import Derived.Deep.Draws
import Derived.Laws.Rows
/-
  What the leaves of package fix, and of its reference, answer: each returns what its plain Lean function says, and leaves all memory that was there as it was.
-/
namespace Go.Proofs.Ytjcibffhlhdjeaa
open Go.RowKit

def okB (x : Int) : Bool := decide (-2147483648 ≤ x ∧ x ≤ 2147483647)
def rightB (zs : List Int) : Bool := zs.all okB

def Row (w : World) (a : Option Addr) (len : Nat) (zs : List Int) : Prop :=
  zs.length = len ∧ len ≤ 9223372036854775807 ∧ (len = 0 ∨ ∃ b off, a = some ⟨b, off, none⟩ ∧ ∀ i, i < len → w.cell? ⟨b, off + i, none⟩ = some (.int .i64 (zs.getD i 0)))

theorem rightB_take_succ (zs : List Int) (k : Nat) (h : k < zs.length) : rightB (zs.take (k + 1)) = (rightB (zs.take k) && okB (zs.getD k 0)) := by
  unfold rightB
  rw [List.take_add_one, List.all_append]
  simp [List.getD, List.getElem?_eq_getElem h]

theorem rightB_bad (zs : List Int) (k : Nat) (h : k < zs.length) (hb : okB (zs.getD k 0) = false) : rightB zs = false := by
  unfold rightB
  rw [List.all_eq_false]
  refine ⟨zs.getD k 0, ?_, by rw [hb]; decide⟩
  simp only [List.getD, List.getElem?_eq_getElem h, Option.getD_some]
  exact List.getElem_mem h

theorem ret_bool {a b : Bool} (h : a = b) : Ending.returned (.bool a) = .returned (.bool b) := by rw [h]
theorem okB_lo {x : Int} (h : x < -2147483648) : okB x = false := by unfold okB; rw [decide_eq_false_iff_not]; omega
theorem okB_hi {x : Int} (h : 2147483647 < x) : okB x = false := by unfold okB; rw [decide_eq_false_iff_not]; omega
theorem okB_yes {x : Int} (h : -2147483648 ≤ x) (h2 : x ≤ 2147483647) : okB x = true := by unfold okB; rw [decide_eq_true_iff]; omega
theorem okB_iff {x : Int} : okB x = true ↔ (-2147483648 ≤ x ∧ x ≤ 2147483647) := by unfold okB; simp

set_option maxHeartbeats 400000 in
theorem right_empty (a : Option Addr) (cap : Nat) (w : World) :
    Calls Try.prog 50 #[.slice a 0 cap] w fun e w' => e = .returned (.bool true) ∧ w = w' := by
  go_enter Try.func50, Try.ntmps50
  go_wp2
  go_loop [7] (fun i => i = .int .i64 0) (fun _ => 0)
  case atStart => rfl
  case round =>
    obtain rfl := hrel
    go_wp2
    go_ret
    exact ⟨rfl, rfl⟩

set_option maxHeartbeats 400000 in
theorem right_row (b off len cap : Nat) (zs : List Int) (w : World) (hl : zs.length = len) (hbig : len ≤ 9223372036854775807) (hc : ∀ j, j < len → w.cell? ⟨b, off + j, none⟩ = some (.int .i64 (zs.getD j 0))) :
    Calls Try.prog 50 #[.slice (some ⟨b, off, none⟩) len cap] w fun e w' => e = .returned (.bool (rightB zs)) ∧ w = w' := by
  have HL := Lib.hid hl
  have HC := Lib.hid hc
  clear hl hc
  go_enter Try.func50, Try.ntmps50
  go_wp2
  go_loop [7] (fun i => ∃ k : Nat, k ≤ len ∧ i = .int .i64 k ∧ rightB (zs.take k) = true) (fun i => len - (intOf i).toNat)
  case atStart => exact ⟨0, Nat.zero_le _, rfl, rfl⟩
  case round =>
    obtain ⟨k, hk, rfl, hr⟩ := hrel
    have HR := Lib.hid hr
    clear hr
    by_cases hlt : k < len
    · have hk' : k < zs.length := by rw [HL.out]; exact hlt
      obtain ⟨x, hx⟩ : ∃ x, x = zs.getD k 0 := ⟨_, rfl⟩
      have hcell := HC.out k hlt
      have H1 := Lib.hid (rightB_take_succ zs k hk')
      have H2 := Lib.hid (rightB_bad zs k hk')
      rw [← hx] at hcell
      rw [← hx] at H1 H2
      clear hx hk'
      by_cases hlo : x < -2147483648
      · go_wp2
        go_ret
        exact ⟨ret_bool (H2.out (okB_lo hlo)).symm, rfl⟩
      · by_cases hhi : 2147483647 < x
        · go_wp2
          go_ret
          exact ⟨ret_bool (H2.out (okB_hi hhi)).symm, rfl⟩
        · go_wp2
          go_round
          case rel => exact ⟨k + 1, by omega, by go_num, by rw [H1.out, HR.out, okB_yes (by omega) (by omega)]; rfl⟩
          case measure => simp [intOf]; omega
    · go_wp2
      go_ret
      have e : zs.take k = zs := List.take_of_length_le (by rw [HL.out]; omega)
      exact ⟨ret_bool (by rw [← HR.out, e]), rfl⟩

theorem right_any (a : Option Addr) (len cap : Nat) (zs : List Int) (w : World) (h : Row w a len zs) :
    Calls Try.prog 50 #[.slice a len cap] w fun e w' => e = .returned (.bool (rightB zs)) ∧ w = w' := by
  obtain ⟨hl, hm, h0 | ⟨b, off, rfl, hc⟩⟩ := h
  · subst h0
    obtain rfl := List.eq_nil_of_length_eq_zero hl
    exact right_empty a cap w
  · exact right_row b off len cap zs w hl hm hc

theorem tk {P : Program} {ops : Array Oper} {md : Region.Mode} {Q : Exit → Go.Act → World → Prop} {S : World → Prop} (i : Nat) {oi : Oper} {v : Value} {fuel : Nat} {l : Array Bool} {a a' : Go.Act} {w : World} (hS : S w) (h : wpAnyH P md ops Q S fuel (l.setIfInBounds i true) a' w)
    (hi : ops[i]? = some oi := by rfl) (hs : Region.noSelect ops = true := by kernel_rfl) (hf : Region.free md ops l i = true := by kernel_rfl) (hr : (Region.ready md ops l).contains i = true := by kernel_rfl) (hw : Region.wanted oi (yielded ops a.tmps) = true := by rfl)
    (hy : ∀ w, S w → (execOp a.eval oi).run P w = .ok (.value v) w := by (intro w hSw; (try dsimp only at hSw); go_split_ands; go_simp; with_reducible rfl))
    (ha : a.put oi.dst v = a' := by (simp only [Go.Act.put, List.getElem_toArray, List.getElem_cons_zero, List.getElem_cons_succ, List.setIfInBounds_toArray, List.set_cons_zero, List.set_cons_succ]; try rfl))
    (hQ : ∀ c a w, Q (.panic c) (a.put oi.dst v) w → Q (.panic c) a w := by exact fun _ _ _ h => h) : wpAnyH P md ops Q S (fuel + 1) l a w :=
  wpAnyH_take hi hs hf hr hQ (Or.inl ⟨hw, hy⟩) hS (by rw [ha]; exact h)
theorem tks {P : Program} {ops : Array Oper} {md : Region.Mode} {Q : Exit → Go.Act → World → Prop} {S : World → Prop} (i : Nat) {oi : Oper} {fuel : Nat} {l : Array Bool} {a a' : Go.Act} {w : World} (hS : S w) (h : wpAnyH P md ops Q S fuel (l.setIfInBounds i true) a' w)
    (hi : ops[i]? = some oi := by rfl) (hs : Region.noSelect ops = true := by kernel_rfl) (hf : Region.free md ops l i = true := by kernel_rfl) (hr : (Region.ready md ops l).contains i = true := by kernel_rfl) (hw : Region.wanted oi (yielded ops a.tmps) = false := by rfl)
    (ha : a.put oi.dst undef = a' := by (simp only [Go.Act.put, List.getElem_toArray, List.getElem_cons_zero, List.getElem_cons_succ, List.setIfInBounds_toArray, List.set_cons_zero, List.set_cons_succ]; try rfl))
    (hQ : ∀ c a w, Q (.panic c) (a.put oi.dst undef) w → Q (.panic c) a w := by exact fun _ _ _ h => h) : wpAnyH P md ops Q S (fuel + 1) l a w :=
  wpAnyH_take hi hs hf hr hQ (Or.inr ⟨hw, rfl⟩) hS (by rw [ha]; exact h)
theorem tkl {P : Program} {ops : Array Oper} {md : Region.Mode} {Q : Exit → Go.Act → World → Prop} {S : World → Prop} (i : Nat) {oi : Oper} {v : Value} {fuel : Nat} {l : Array Bool} {a a' : Go.Act} {w : World} (hi : ops[i]? = some oi) (hy : YieldsIf P ops S oi v a) (hS : S w) (h : wpAnyH P md ops Q S fuel (l.setIfInBounds i true) a' w)
    (hs : Region.noSelect ops = true := by kernel_rfl) (hf : Region.free md ops l i = true := by kernel_rfl) (hr : (Region.ready md ops l).contains i = true := by kernel_rfl)
    (ha : a.put oi.dst v = a' := by (simp only [Go.Act.put, List.getElem_toArray, List.getElem_cons_zero, List.getElem_cons_succ, List.setIfInBounds_toArray, List.set_cons_zero, List.set_cons_succ]; try rfl))
    (hQ : ∀ c a w, Q (.panic c) (a.put oi.dst v) w → Q (.panic c) a w := by exact fun _ _ _ h => h) : wpAnyH P md ops Q S (fuel + 1) l a w :=
  wpAnyH_take hi hs hf hr hQ hy hS (by rw [ha]; exact h)
theorem rd {P : Program} {ops : Array Oper} {md : Region.Mode} {Q : Exit → Go.Act → World → Prop} {S : World → Prop} (i : Nat) {o : Oper} {fuel : Nat} {l : Array Bool} {a : Go.Act} {w : World}
    (h : ∀ K' : Go.Act → World → Prop, Shut (∀ a w, S w → (S w → wpAnyH P md ops Q S fuel (l.setIfInBounds i true) a w) → K' a w) → if Region.wanted o (yielded ops a.tmps) = true then Oper.wp P o a w K' Q else K' (a.put o.dst undef) w)
    (ho : ops[i]? = some o := by rfl) (hr : Region.ready md ops l = [i] := by kernel_rfl) : wpAnyH P md ops Q S (fuel + 1) l a w :=
  wpAnyH_ready hr (by simp) (AllReadyH.cons ho h AllReadyH.nil)
theorem row1 (w : World) (x : Int) (t : TypeId) : Row (w.alloc (.cells #[.int .i64 x] t)) (some ⟨w.heap.size, 0, none⟩) 1 [x] := by
  refine ⟨rfl, by omega, Or.inr ⟨_, _, rfl, fun i hi => ?_⟩⟩
  obtain rfl : i = 0 := by omega
  simp [List.getD]

theorem row2 (w : World) (x y : Int) (t : TypeId) : Row (w.alloc (.cells #[.int .i64 x, .int .i64 y] t)) (some ⟨w.heap.size, 0, none⟩) 2 [x, y] := by
  refine ⟨rfl, by omega, Or.inr ⟨_, _, rfl, fun i hi => ?_⟩⟩
  obtain rfl | rfl : i = 0 ∨ i = 1 := by omega
  · simp [List.getD]
  · simp [List.getD]

theorem rightB1 (x : Int) : rightB [x] = okB x := by simp [rightB]
theorem rightB2 (x y : Int) : rightB [x, y] = (okB x && okB y) := by simp [rightB]

def fitV (x : Int) : Int := if okB x then x else 0
def fitE (x : Int) : Int := if okB x then 0 else 6

theorem alloc_below (w : World) (o : Obj) : Below w.heap.size w (w.alloc o) := (Below.refl _ _).alloc (Nat.le_refl _) o

theorem bthen {w a b : World} (h : Below w.heap.size w a) (k : Below a.heap.size a b) : Below w.heap.size w b := h.trans (k.mono h.size)
theorem balloc {w a : World} (h : Below w.heap.size w a) (o : Obj) : Below w.heap.size w (a.alloc o) := h.alloc h.size o
set_option maxHeartbeats 400000 in
theorem fit_any (x : Int) (w : World) :
    Calls Try.prog 97 #[.int .i64 x] w fun e w' => e = .returned (.tuple #[.int .i64 (fitV x), .int .i64 (fitE x)]) ∧ Below w.heap.size w w' := by
  by_cases h : okB x = true
  · have e1 : fitV x = x := by unfold fitV; rw [if_pos h]
    have e2 : fitE x = 0 := by unfold fitE; rw [if_pos h]
    rw [e1, e2]
    clear e1 e2
    have hr : rightB [x] = true := by rw [rightB1]; exact h
    clear h
    go_enter Try.func97, Try.ntmps97
    go_wp2_with (go_at_call 50; refine (right_any _ _ _ [x] _ (row1 w x 36)).mono ?_; rintro e w' ⟨rfl, rfl⟩)
    go_ret2
    exact ⟨rfl, alloc_below _ _⟩
  · have h' : okB x = false := by simpa using h
    have e1 : fitV x = 0 := by unfold fitV; rw [if_neg h]
    have e2 : fitE x = 6 := by unfold fitE; rw [if_neg h]
    rw [e1, e2]
    clear e1 e2
    have hr : rightB [x] = false := by rw [rightB1]; exact h'
    clear h h'
    go_enter Try.func97, Try.ntmps97
    go_wp2_with (go_at_call 50; refine (right_any _ _ _ [x] _ (row1 w x 36)).mono ?_; rintro e w' ⟨rfl, rfl⟩)
    go_ret2
    exact ⟨rfl, alloc_below _ _⟩

end Go.Proofs.Ytjcibffhlhdjeaa
namespace Go.Proofs.Ytjcibffhlhdjeaa
set_option linter.unusedVariables false

theorem fdiv_pos (a b q : Int) (hb : 0 < b) (h1 : b * q ≤ a) (h2 : a < b * q + b) : a.fdiv b = q := by
  rw [Int.fdiv_eq_ediv_of_nonneg _ (Int.le_of_lt hb)]
  have h3 : q ≤ a / b := (Int.le_ediv_iff_mul_le hb).2 (by rw [Int.mul_comm]; exact h1)
  have h4 : a / b < q + 1 := (Int.ediv_lt_iff_lt_mul hb).2 (by rw [Int.mul_comm, Int.mul_add]; omega)
  omega

def flo (q : Int) (rest below : Bool) : Int := if below then (if rest then -q - 1 else -q) else q

theorem flo_pos (x : Int) (m : Int) (hm : 0 < m) : flo (x / m) (x % m != 0) false = x.fdiv m := by
  rw [Int.fdiv_eq_ediv_of_nonneg _ (Int.le_of_lt hm)]; rfl

theorem flo_neg (x : Int) (m : Int) (hm : 0 < m) : flo (x / m) (x % m != 0) true = (-x).fdiv m := by
  have h := Int.mul_ediv_add_emod x m
  have h1 := Int.emod_nonneg x (show m ≠ 0 by omega)
  have h2 := Int.emod_lt_of_pos x hm
  unfold flo
  rw [if_pos rfl]
  by_cases e : x % m = 0
  · have e' : (x % m != 0) = false := by simp [e]
    rw [e']
    refine (fdiv_pos _ _ _ hm ?_ ?_).symm <;> rw [if_neg (by decide), Int.mul_neg] <;> omega
  · have e' : (x % m != 0) = true := by simp [e]
    rw [e']
    refine (fdiv_pos _ _ _ hm ?_ ?_).symm <;> rw [if_pos rfl, Int.mul_sub, Int.mul_neg] <;> omega

theorem halves (x y : Int) : x / 65536 * y + x % 65536 * y / 65536 = x * y / 65536 ∧ x % 65536 * y % 65536 = x * y % 65536 := by
  have h : x * y = x % 65536 * y + 65536 * (x / 65536 * y) := by
    have := Int.mul_ediv_add_emod x 65536
    calc x * y = (65536 * (x / 65536) + x % 65536) * y := by rw [this]
      _ = _ := by rw [Int.add_mul, Int.mul_assoc]; omega
  rw [h, Int.add_mul_ediv_left _ _ (by decide), Int.add_mul_emod_self_left]
  omega

theorem fdiv_65536 (x : Int) : x.fdiv 65536 = x / 65536 := Int.fdiv_eq_ediv_of_nonneg _ (by decide)

end Go.Proofs.Ytjcibffhlhdjeaa
namespace Go.Proofs.Ytjcibffhlhdjeaa
open Go.RowKit

theorem mul_bound {a b : Int} (ha : okB a = true) (hb : okB b = true) : -4611686018427387904 ≤ a * b ∧ a * b ≤ 4611686018427387904 := by
  rw [okB_iff] at ha hb
  have h : (a * b).natAbs ≤ 2147483648 * 2147483648 := by
    rw [Int.natAbs_mul]
    exact Nat.mul_le_mul (by omega) (by omega)
  omega

def mulV (a b : Int) : Int := if okB a && okB b then fitV (a * b / 65536) else 0
def mulE (a b : Int) : Int := if okB a && okB b then fitE (a * b / 65536) else 1

set_option maxHeartbeats 400000 in
theorem mul_any (a b : Int) (w : World) :
    Calls Try.prog 90 #[.int .i64 a, .int .i64 b] w fun e w' => e = .returned (.tuple #[.int .i64 (mulV a b), .int .i64 (mulE a b)]) ∧ Below w.heap.size w w' := by
  by_cases h : (okB a && okB b) = true
  · have e1 : mulV a b = fitV (a * b / 65536) := by unfold mulV; rw [if_pos h]
    have e2 : mulE a b = fitE (a * b / 65536) := by unfold mulE; rw [if_pos h]
    rw [e1, e2]
    clear e1 e2
    have hr : rightB [a, b] = true := by rw [rightB2]; exact h
    obtain ⟨ha, hb⟩ := Bool.and_eq_true_iff.1 h
    obtain ⟨hm1, hm2⟩ := mul_bound ha hb
    clear h ha hb
    go_enter Try.func90, Try.ntmps90
    go_wp2_with (first | (go_at_call 50; refine (right_any _ _ _ [a, b] _ (row2 w a b 36)).mono ?_; rintro e w' ⟨rfl, rfl⟩) | (go_at_call 97; refine (fit_any _ _).mono ?_; rintro e w' ⟨rfl, hb⟩))
    go_ret2
    exact ⟨rfl, (alloc_below w _).trans (hb.mono (by simp))⟩
  · have h' : (okB a && okB b) = false := by simpa using h
    have e1 : mulV a b = 0 := by unfold mulV; rw [if_neg h]
    have e2 : mulE a b = 1 := by unfold mulE; rw [if_neg h]
    rw [e1, e2]
    clear e1 e2
    have hr : rightB [a, b] = false := by rw [rightB2]; exact h'
    clear h h'
    go_enter Try.func90, Try.ntmps90
    go_wp2_with (go_at_call 50; refine (right_any _ _ _ [a, b] _ (row2 w a b 36)).mono ?_; rintro e w' ⟨rfl, rfl⟩)
    go_ret2
    exact ⟨rfl, alloc_below _ _⟩

theorem okB_getD (zs : List Int) (k : Nat) (h : rightB zs = true) (hk : k < zs.length) : -2147483648 ≤ zs.getD k 0 ∧ zs.getD k 0 ≤ 2147483647 := by
  unfold rightB at h
  rw [List.all_eq_true] at h
  have hm : zs.getD k 0 ∈ zs := by
    simp only [List.getD, List.getElem?_eq_getElem hk, Option.getD_some]
    exact List.getElem_mem hk
  exact okB_iff.1 (h _ hm)

theorem sum_succ (zs : List Int) (k : Nat) (h : k < zs.length) : (zs.take (k + 1)).sum = (zs.take k).sum + zs.getD k 0 := by
  rw [List.take_add_one, List.sum_append]
  simp [List.getD, List.getElem?_eq_getElem h]

theorem sum_bd (zs : List Int) (h : rightB zs = true) : ∀ k : Nat, k ≤ zs.length → -2147483648 * (k : Int) ≤ (zs.take k).sum ∧ (zs.take k).sum ≤ 2147483648 * (k : Int)
  | 0, _ => by simp
  | k + 1, hk => by
    have ih := sum_bd zs h k (by omega)
    have hb := okB_getD zs k h (by omega)
    rw [sum_succ zs k (by omega)]
    omega

def addOk (zs : List Int) : Bool := decide (zs.length ≤ 1024) && rightB zs
def addV (zs : List Int) : Int := if addOk zs then fitV zs.sum else 0
def addE (zs : List Int) : Int := if addOk zs then fitE zs.sum else 1

set_option maxHeartbeats 400000 in
theorem add_row (b off len cap : Nat) (zs : List Int) (w : World) (hl : zs.length = len) (hle : len ≤ 1024) (hr : rightB zs = true) (hc : ∀ j, j < len → w.cell? ⟨b, off + j, none⟩ = some (.int .i64 (zs.getD j 0))) :
    Calls Try.prog 91 #[.slice (some ⟨b, off, none⟩) len cap] w fun e w' => e = .returned (.tuple #[.int .i64 (fitV zs.sum), .int .i64 (fitE zs.sum)]) ∧ Below w.heap.size w w' := by
  have HL := Lib.hid hl
  have HC := Lib.hid hc
  have HB := Lib.hid (sum_bd zs hr)
  have HO := Lib.hid (okB_getD zs · hr)
  have row : Row w (some ⟨b, off, none⟩) len zs := ⟨hl, by omega, Or.inr ⟨b, off, rfl, hc⟩⟩
  have HRow := Lib.hid row
  clear hl hc row
  go_enter Try.func91, Try.ntmps91
  go_wp2_with (go_at_call 50; refine (right_any _ _ _ zs _ HRow.out).mono ?_; rintro e w' ⟨rfl, rfl⟩)
  go_loop [4, 17] (fun s i => ∃ k : Nat, k ≤ len ∧ i = .int .i64 k ∧ s = .int .i64 (zs.take k).sum) (fun _ i => len - (intOf i).toNat)
  case atStart => exact ⟨0, Nat.zero_le _, rfl, rfl⟩
  case round =>
    obtain ⟨k, hk, rfl, rfl⟩ := hrel
    obtain ⟨s1, s2⟩ := HB.out k (by rw [HL.out]; exact hk)
    by_cases hlt : k < len
    · have hk' : k < zs.length := by rw [HL.out]; exact hlt
      obtain ⟨x, hx⟩ : ∃ x, x = zs.getD k 0 := ⟨_, rfl⟩
      have hcell := HC.out k hlt
      obtain ⟨x1, x2⟩ := HO.out k hk'
      have H1 := Lib.hid (sum_succ zs k hk')
      rw [← hx] at hcell x1 x2
      rw [← hx] at H1
      clear hx hk'
      go_wp2
      go_round
      case rel => exact ⟨k + 1, by omega, by go_num, by rw [H1.out]⟩
      case measure => simp [intOf]; omega
    · have e : zs.take k = zs := List.take_of_length_le (by rw [HL.out]; omega)
      rw [e] at *
      clear e
      go_wp2_with (go_at_call 97; refine (fit_any _ _).mono ?_; rintro e w' ⟨rfl, hb⟩)
      go_ret2
      exact ⟨rfl, hb⟩

set_option maxHeartbeats 400000 in
theorem add_empty (a : Option Addr) (cap : Nat) (w : World) :
    Calls Try.prog 91 #[.slice a 0 cap] w fun e w' => e = .returned (.tuple #[.int .i64 (fitV 0), .int .i64 (fitE 0)]) ∧ Below w.heap.size w w' := by
  go_enter Try.func91, Try.ntmps91
  go_wp2_with (go_at_call 50; refine (right_empty _ _ _).mono ?_; rintro e w' ⟨rfl, rfl⟩)
  go_loop [4, 17] (fun s i => i = .int .i64 0 ∧ s = .int .i64 0) (fun _ _ => 0)
  case atStart => exact ⟨rfl, rfl⟩
  case round =>
    obtain ⟨rfl, rfl⟩ := hrel
    go_wp2_with (go_at_call 97; refine (fit_any _ _).mono ?_; rintro e w' ⟨rfl, hb⟩)
    go_ret2
    exact ⟨rfl, hb⟩

set_option maxHeartbeats 400000 in
theorem add_many (a : Option Addr) (len cap : Nat) (w : World) (h : 1024 < len) (hbig : len ≤ 9223372036854775807) :
    Calls Try.prog 91 #[.slice a len cap] w fun e w' => e = .returned (.tuple #[.int .i64 0, .int .i64 1]) ∧ Below w.heap.size w w' := by
  go_enter Try.func91, Try.ntmps91
  go_wp2
  go_ret2
  exact ⟨rfl, Below.refl _ _⟩

set_option maxHeartbeats 400000 in
theorem add_wrong (a : Option Addr) (len cap : Nat) (zs : List Int) (w : World) (h : len ≤ 1024) (hr : rightB zs = false) (row : Row w a len zs) :
    Calls Try.prog 91 #[.slice a len cap] w fun e w' => e = .returned (.tuple #[.int .i64 0, .int .i64 1]) ∧ Below w.heap.size w w' := by
  have HRow := Lib.hid row
  clear row
  go_enter Try.func91, Try.ntmps91
  go_wp2_with (go_at_call 50; refine (right_any _ _ _ zs _ HRow.out).mono ?_; rintro e w' ⟨rfl, rfl⟩)
  go_ret2
  exact ⟨rfl, Below.refl _ _⟩

theorem addOk_many {zs : List Int} {len : Nat} (hl : zs.length = len) (h : 1024 < len) : addOk zs = false := by
  unfold addOk; rw [decide_eq_false (by omega)]; rfl
theorem addOk_wrong {zs : List Int} (h : rightB zs = false) : addOk zs = false := by unfold addOk; rw [h, Bool.and_false]
theorem addOk_yes {zs : List Int} {len : Nat} (hl : zs.length = len) (h : len ≤ 1024) (hr : rightB zs = true) : addOk zs = true := by
  unfold addOk; rw [decide_eq_true (by omega), hr]; rfl
theorem addV_no {zs : List Int} (h : addOk zs = false) : addV zs = 0 := by unfold addV; rw [if_neg (by rw [h]; decide)]
theorem addE_no {zs : List Int} (h : addOk zs = false) : addE zs = 1 := by unfold addE; rw [if_neg (by rw [h]; decide)]
theorem addV_yes {zs : List Int} (h : addOk zs = true) : addV zs = fitV zs.sum := by unfold addV; rw [if_pos h]
theorem addE_yes {zs : List Int} (h : addOk zs = true) : addE zs = fitE zs.sum := by unfold addE; rw [if_pos h]

theorem add_any (a : Option Addr) (len cap : Nat) (zs : List Int) (w : World) (h : Row w a len zs) :
    Calls Try.prog 91 #[.slice a len cap] w fun e w' => e = .returned (.tuple #[.int .i64 (addV zs), .int .i64 (addE zs)]) ∧ Below w.heap.size w w' := by
  have row := h
  obtain ⟨hl, hm, h0⟩ := h
  by_cases hn : 1024 < len
  · rw [addV_no (addOk_many hl hn), addE_no (addOk_many hl hn)]
    exact add_many a len cap w hn hm
  · by_cases hr : rightB zs = true
    · rw [addV_yes (addOk_yes hl (by omega) hr), addE_yes (addOk_yes hl (by omega) hr)]
      rcases h0 with h0 | ⟨b, off, rfl, hc⟩
      · subst h0
        obtain rfl := List.eq_nil_of_length_eq_zero hl
        exact add_empty a cap w
      · exact add_row b off len cap zs w hl (by omega) hr hc
    · have hr' : rightB zs = false := by simpa using hr
      rw [addV_no (addOk_wrong hr'), addE_no (addOk_wrong hr')]
      exact add_wrong a len cap zs w (by omega) hr' row

set_option maxHeartbeats 400000 in
theorem one_any (x : Int) (w : World) :
    Calls Try.prog 71 #[.int .i64 x] w fun e w' => e = .returned (.bool (okB x)) ∧ w = w' := by
  by_cases h1 : -2147483648 ≤ x
  · by_cases h2 : x ≤ 2147483647
    · rw [okB_yes h1 h2]
      go_enter Try.func71, Try.ntmps71
      go_wp2
      go_ret
      exact ⟨rfl, rfl⟩
    · rw [okB_hi (by omega)]
      go_enter Try.func71, Try.ntmps71
      go_wp2
      go_ret
      exact ⟨rfl, rfl⟩
  · rw [okB_lo (by omega)]
    go_enter Try.func71, Try.ntmps71
    go_wp2
    go_ret
    exact ⟨rfl, rfl⟩

set_option maxHeartbeats 400000 in
theorem out_any (x : Int) (w : World) :
    Calls Try.prog 96 #[.int .i64 x] w fun e w' => e = .returned (.tuple #[.int .i64 (fitV x), .int .i64 (fitE x)]) ∧ w = w' := by
  by_cases h : okB x = true
  · have e1 : fitV x = x := by unfold fitV; rw [if_pos h]
    have e2 : fitE x = 0 := by unfold fitE; rw [if_pos h]
    rw [e1, e2]
    clear e1 e2
    go_enter Try.func96, Try.ntmps96
    go_wp2_with (go_at_call 71; refine (one_any _ _).mono ?_; rintro e w' ⟨rfl, rfl⟩)
    go_ret2
    exact ⟨rfl, rfl⟩
  · have h' : okB x = false := by simpa using h
    have e1 : fitV x = 0 := by unfold fitV; rw [if_neg h]
    have e2 : fitE x = 6 := by unfold fitE; rw [if_neg h]
    rw [e1, e2]
    clear e1 e2 h
    go_enter Try.func96, Try.ntmps96
    go_wp2_with (go_at_call 71; refine (one_any _ _).mono ?_; rintro e w' ⟨rfl, rfl⟩)
    go_ret2
    exact ⟨rfl, rfl⟩

set_option maxHeartbeats 400000 in
theorem rright_empty (a : Option Addr) (cap : Nat) (w : World) :
    Calls Try.prog 55 #[.slice a 0 cap] w fun e w' => e = .returned (.bool true) ∧ w = w' := by
  go_enter Try.func55, Try.ntmps55
  go_wp2
  go_loop [3] (fun i => i = .int .i64 0) (fun _ => 0)
  case atStart => rfl
  case round =>
    obtain rfl := hrel
    go_wp2
    go_ret
    exact ⟨rfl, rfl⟩

set_option maxHeartbeats 400000 in
theorem rright_row (b off len cap : Nat) (zs : List Int) (w : World) (hl : zs.length = len) (hbig : len ≤ 9223372036854775807) (hc : ∀ j, j < len → w.cell? ⟨b, off + j, none⟩ = some (.int .i64 (zs.getD j 0))) :
    Calls Try.prog 55 #[.slice (some ⟨b, off, none⟩) len cap] w fun e w' => e = .returned (.bool (rightB zs)) ∧ w = w' := by
  have HL := Lib.hid hl
  have HC := Lib.hid hc
  clear hl hc
  go_enter Try.func55, Try.ntmps55
  go_wp2
  go_loop [3] (fun i => ∃ k : Nat, k ≤ len ∧ i = .int .i64 k ∧ rightB (zs.take k) = true) (fun i => len - (intOf i).toNat)
  case atStart => exact ⟨0, Nat.zero_le _, rfl, rfl⟩
  case round =>
    obtain ⟨k, hk, rfl, hr⟩ := hrel
    have HR := Lib.hid hr
    clear hr
    by_cases hlt : k < len
    · have hk' : k < zs.length := by rw [HL.out]; exact hlt
      obtain ⟨x, hx⟩ : ∃ x, x = zs.getD k 0 := ⟨_, rfl⟩
      have hcell := HC.out k hlt
      have H1 := Lib.hid (rightB_take_succ zs k hk')
      have H2 := Lib.hid (rightB_bad zs k hk')
      rw [← hx] at hcell
      rw [← hx] at H1 H2
      clear hx hk'
      by_cases hok : okB x = true
      · go_wp2_with (go_at_call 71; refine (one_any _ _).mono ?_; rintro e w' ⟨rfl, rfl⟩)
        go_round
        case rel => exact ⟨k + 1, by omega, by go_num, by rw [H1.out, HR.out, hok]; rfl⟩
        case measure => simp [intOf]; omega
      · have hok' : okB x = false := by simpa using hok
        clear hok
        go_wp2_with (go_at_call 71; refine (one_any _ _).mono ?_; rintro e w' ⟨rfl, rfl⟩)
        go_ret
        exact ⟨ret_bool (H2.out hok').symm, rfl⟩
    · go_wp2
      go_ret
      have e : zs.take k = zs := List.take_of_length_le (by rw [HL.out]; omega)
      exact ⟨ret_bool (by rw [← HR.out, e]), rfl⟩

theorem rright_any (a : Option Addr) (len cap : Nat) (zs : List Int) (w : World) (h : Row w a len zs) :
    Calls Try.prog 55 #[.slice a len cap] w fun e w' => e = .returned (.bool (rightB zs)) ∧ w = w' := by
  obtain ⟨hl, hm, h0 | ⟨b, off, rfl, hc⟩⟩ := h
  · subst h0
    obtain rfl := List.eq_nil_of_length_eq_zero hl
    exact rright_empty a cap w
  · exact rright_row b off len cap zs w hl hm hc

set_option maxHeartbeats 400000 in
theorem radd_row (b off len cap : Nat) (zs : List Int) (w : World) (hl : zs.length = len) (hle : len ≤ 1024) (hr : rightB zs = true) (hc : ∀ j, j < len → w.cell? ⟨b, off + j, none⟩ = some (.int .i64 (zs.getD j 0))) :
    Calls Try.prog 86 #[.slice (some ⟨b, off, none⟩) len cap] w fun e w' => e = .returned (.tuple #[.int .i64 (fitV zs.sum), .int .i64 (fitE zs.sum)]) ∧ w = w' := by
  have HL := Lib.hid hl
  have HC := Lib.hid hc
  have HB := Lib.hid (sum_bd zs hr)
  have HO := Lib.hid (okB_getD zs · hr)
  have row : Row w (some ⟨b, off, none⟩) len zs := ⟨hl, by omega, Or.inr ⟨b, off, rfl, hc⟩⟩
  have HRow := Lib.hid row
  clear hl hc row
  go_enter Try.func86, Try.ntmps86
  go_wp2_with (go_at_call 55; refine (rright_any _ _ _ zs _ HRow.out).mono ?_; rintro e w' ⟨rfl, rfl⟩)
  go_loop [5, 6] (fun s i => ∃ k : Nat, k ≤ len ∧ i = .int .i64 k ∧ s = .int .i64 (zs.take k).sum) (fun _ i => len - (intOf i).toNat)
  case atStart => exact ⟨0, Nat.zero_le _, rfl, rfl⟩
  case round =>
    obtain ⟨k, hk, rfl, rfl⟩ := hrel
    obtain ⟨s1, s2⟩ := HB.out k (by rw [HL.out]; exact hk)
    by_cases hlt : k < len
    · have hk' : k < zs.length := by rw [HL.out]; exact hlt
      obtain ⟨x, hx⟩ : ∃ x, x = zs.getD k 0 := ⟨_, rfl⟩
      have hcell := HC.out k hlt
      obtain ⟨x1, x2⟩ := HO.out k hk'
      have H1 := Lib.hid (sum_succ zs k hk')
      rw [← hx] at hcell x1 x2
      rw [← hx] at H1
      clear hx hk'
      go_wp2
      go_round
      case rel => exact ⟨k + 1, by omega, by go_num, by rw [H1.out]⟩
      case measure => simp [intOf]; omega
    · have e : zs.take k = zs := List.take_of_length_le (by rw [HL.out]; omega)
      rw [e] at *
      clear e
      go_wp2_with (go_at_call 96; refine (out_any _ _).mono ?_; rintro e w' ⟨rfl, rfl⟩)
      go_ret2
      exact ⟨rfl, rfl⟩

set_option maxHeartbeats 400000 in
theorem radd_empty (a : Option Addr) (cap : Nat) (w : World) :
    Calls Try.prog 86 #[.slice a 0 cap] w fun e w' => e = .returned (.tuple #[.int .i64 (fitV 0), .int .i64 (fitE 0)]) ∧ w = w' := by
  go_enter Try.func86, Try.ntmps86
  go_wp2_with (go_at_call 55; refine (rright_empty _ _ _).mono ?_; rintro e w' ⟨rfl, rfl⟩)
  go_loop [5, 6] (fun s i => i = .int .i64 0 ∧ s = .int .i64 0) (fun _ _ => 0)
  case atStart => exact ⟨rfl, rfl⟩
  case round =>
    obtain ⟨rfl, rfl⟩ := hrel
    go_wp2_with (go_at_call 96; refine (out_any _ _).mono ?_; rintro e w' ⟨rfl, rfl⟩)
    go_ret2
    exact ⟨rfl, rfl⟩

set_option maxHeartbeats 400000 in
theorem radd_many (a : Option Addr) (len cap : Nat) (zs : List Int) (w : World) (h : 1024 < len) (hbig : len ≤ 9223372036854775807) (row : Row w a len zs) :
    Calls Try.prog 86 #[.slice a len cap] w fun e w' => e = .returned (.tuple #[.int .i64 0, .int .i64 1]) ∧ w = w' := by
  have HRow := Lib.hid row
  clear row
  by_cases hr : rightB zs = true
  · go_enter Try.func86, Try.ntmps86
    go_wp2_with (go_at_call 55; refine (rright_any _ _ _ zs _ HRow.out).mono ?_; rintro e w' ⟨rfl, rfl⟩)
    go_ret2
    exact ⟨rfl, rfl⟩
  · have hr' : rightB zs = false := by simpa using hr
    clear hr
    go_enter Try.func86, Try.ntmps86
    go_wp2_with (go_at_call 55; refine (rright_any _ _ _ zs _ HRow.out).mono ?_; rintro e w' ⟨rfl, rfl⟩)
    go_ret2
    exact ⟨rfl, rfl⟩

set_option maxHeartbeats 400000 in
theorem radd_wrong (a : Option Addr) (len cap : Nat) (zs : List Int) (w : World) (hr : rightB zs = false) (row : Row w a len zs) :
    Calls Try.prog 86 #[.slice a len cap] w fun e w' => e = .returned (.tuple #[.int .i64 0, .int .i64 1]) ∧ w = w' := by
  have HRow := Lib.hid row
  clear row
  go_enter Try.func86, Try.ntmps86
  go_wp2_with (go_at_call 55; refine (rright_any _ _ _ zs _ HRow.out).mono ?_; rintro e w' ⟨rfl, rfl⟩)
  go_ret2
  exact ⟨rfl, rfl⟩

theorem radd_any (a : Option Addr) (len cap : Nat) (zs : List Int) (w : World) (h : Row w a len zs) :
    Calls Try.prog 86 #[.slice a len cap] w fun e w' => e = .returned (.tuple #[.int .i64 (addV zs), .int .i64 (addE zs)]) ∧ w = w' := by
  have row := h
  obtain ⟨hl, hm, h0⟩ := h
  by_cases hn : 1024 < len
  · rw [addV_no (addOk_many hl hn), addE_no (addOk_many hl hn)]
    exact radd_many a len cap zs w hn hm row
  · by_cases hr : rightB zs = true
    · rw [addV_yes (addOk_yes hl (by omega) hr), addE_yes (addOk_yes hl (by omega) hr)]
      rcases h0 with h0 | ⟨b, off, rfl, hc⟩
      · subst h0
        obtain rfl := List.eq_nil_of_length_eq_zero hl
        exact radd_empty a cap w
      · exact radd_row b off len cap zs w hl (by omega) hr hc
    · have hr' : rightB zs = false := by simpa using hr
      rw [addV_no (addOk_wrong hr'), addE_no (addOk_wrong hr')]
      exact radd_wrong a len cap zs w hr' row

set_option maxHeartbeats 400000 in
theorem mag_neg (x : Int) (w : World) (h : x < 0) (h2 : -2147483648 ≤ x) :
    Calls Try.prog 94 #[.int .i64 x] w fun e w' => e = .returned (.tuple #[.int .i64 (-x), .bool true]) ∧ w = w' := by
  go_enter Try.func94, Try.ntmps94
  go_wp2
  go_ret2
  exact ⟨rfl, rfl⟩

set_option maxHeartbeats 400000 in
theorem mag_pos (x : Int) (w : World) (h : 0 ≤ x) :
    Calls Try.prog 94 #[.int .i64 x] w fun e w' => e = .returned (.tuple #[.int .i64 x, .bool false]) ∧ w = w' := by
  go_enter Try.func94, Try.ntmps94
  go_wp2
  go_ret2
  exact ⟨rfl, rfl⟩

set_option maxHeartbeats 400000 in
theorem floored_any (q : Int) (rest below : Bool) (w : World) (h1 : 0 ≤ q) (h2 : q ≤ 4611686018427387904) :
    Calls Try.prog 95 #[.int .i64 q, .bool rest, .bool below] w fun e w' => e = .returned (.tuple #[.int .i64 (fitV (flo q rest below)), .int .i64 (fitE (flo q rest below))]) ∧ w = w' := by
  cases below
  · go_enter Try.func95, Try.ntmps95
    go_wp2_with (go_at_call 96; refine (out_any _ _).mono ?_; rintro e w' ⟨rfl, rfl⟩)
    go_ret2
    exact ⟨rfl, rfl⟩
  · cases rest
    · go_enter Try.func95, Try.ntmps95
      go_wp2_with (go_at_call 96; refine (out_any _ _).mono ?_; rintro e w' ⟨rfl, rfl⟩)
      go_ret2
      exact ⟨rfl, rfl⟩
    · go_enter Try.func95, Try.ntmps95
      go_wp2_with (go_at_call 96; refine (out_any _ _).mono ?_; rintro e w' ⟨rfl, rfl⟩)
      go_ret2
      exact ⟨rfl, rfl⟩

theorem mul_yes {a b : Int} (h : (okB a && okB b) = true) : mulV a b = fitV (a * b / 65536) ∧ mulE a b = fitE (a * b / 65536) := by
  unfold mulV mulE; rw [if_pos h, if_pos h]; exact ⟨rfl, rfl⟩
theorem mul_no {a b : Int} (h : (okB a && okB b) = false) : mulV a b = 0 ∧ mulE a b = 1 := by
  have h' : ¬ (okB a && okB b) = true := by rw [h]; decide
  unfold mulV mulE; rw [if_neg h', if_neg h']; exact ⟨rfl, rfl⟩

theorem half_flo (x y : Int) (below : Bool) : flo (x / 65536 * y + x % 65536 * y / 65536) (x % 65536 * y % 65536 != 0) below = if below then (-(x * y)) / 65536 else x * y / 65536 := by
  obtain ⟨h1, h2⟩ := halves x y
  rw [h1, h2]
  cases below
  · rw [flo_pos _ _ (by decide), fdiv_65536]; rfl
  · rw [flo_neg _ _ (by decide), fdiv_65536]; rfl

theorem half_bd (x y : Int) (hx : 0 ≤ x) (hx2 : x ≤ 2147483648) (hy : 0 ≤ y) (hy2 : y ≤ 2147483648) :
    0 ≤ x % 65536 * y ∧ x % 65536 * y ≤ 140737488355328 ∧ 0 ≤ x / 65536 * y ∧ x / 65536 * y ≤ 140737488355328 := by
  have a1 := Int.mul_nonneg (show 0 ≤ x % 65536 by omega) hy
  have a2 := Int.mul_nonneg (show 0 ≤ x / 65536 by omega) hy
  have a3 : x % 65536 * y ≤ 65536 * 2147483648 := Int.mul_le_mul (by omega) hy2 hy (by omega)
  have a4 : x / 65536 * y ≤ 65536 * 2147483648 := Int.mul_le_mul (by omega) hy2 hy (by omega)
  omega

def Mag (a x : Int) (s : Bool) : Prop := (s = true ∧ a < 0 ∧ x = -a) ∨ (s = false ∧ 0 ≤ a ∧ x = a)

theorem mag_of (a : Int) : ∃ x s, Mag a x s := by
  by_cases h : a < 0
  · exact ⟨-a, true, Or.inl ⟨rfl, h, rfl⟩⟩
  · exact ⟨a, false, Or.inr ⟨rfl, by omega, rfl⟩⟩

theorem mag_any (a x : Int) (s : Bool) (w : World) (h2 : -2147483648 ≤ a) (h : Mag a x s) :
    Calls Try.prog 94 #[.int .i64 a] w fun e w' => e = .returned (.tuple #[.int .i64 x, .bool s]) ∧ w = w' := by
  rcases h with ⟨rfl, h, rfl⟩ | ⟨rfl, h, rfl⟩
  · exact mag_neg a w h h2
  · exact mag_pos x w h

theorem mag_bd {a x : Int} {s : Bool} (h : Mag a x s) (h1 : -2147483648 ≤ a) (h2 : a ≤ 2147483647) : 0 ≤ x ∧ x ≤ 2147483648 := by
  rcases h with ⟨_, h, rfl⟩ | ⟨_, h, rfl⟩ <;> omega

theorem mag_mul {a b x y : Int} {s t : Bool} (h : Mag a x s) (k : Mag b y t) :
    flo (x / 65536 * y + x % 65536 * y / 65536) (x % 65536 * y % 65536 != 0) (!s == t) = a * b / 65536 := by
  rw [half_flo]
  rcases h with ⟨rfl, _, rfl⟩ | ⟨rfl, _, rfl⟩ <;> rcases k with ⟨rfl, _, rfl⟩ | ⟨rfl, _, rfl⟩ <;> simp [Int.mul_neg, Int.neg_mul]

set_option maxHeartbeats 1000000 in
theorem rmul_any (a b : Int) (w : World) :
    Calls Try.prog 85 #[.int .i64 a, .int .i64 b] w fun e w' => e = .returned (.tuple #[.int .i64 (mulV a b), .int .i64 (mulE a b)]) ∧ Below w.heap.size w w' := by
  by_cases h : (okB a && okB b) = true
  · rw [(mul_yes h).1, (mul_yes h).2]
    have hr : rightB [a, b] = true := by rw [rightB2]; exact h
    obtain ⟨ha, hb⟩ := Bool.and_eq_true_iff.1 h
    obtain ⟨a1, a2⟩ := okB_iff.1 ha
    obtain ⟨b1, b2⟩ := okB_iff.1 hb
    clear h ha hb
    obtain ⟨x, s, hx⟩ := mag_of a
    obtain ⟨y, t, hy⟩ := mag_of b
    rw [← mag_mul hx hy]
    obtain ⟨x1, x2⟩ := mag_bd hx a1 a2
    obtain ⟨y1, y2⟩ := mag_bd hy b1 b2
    obtain ⟨p1, p2, p3, p4⟩ := half_bd x y x1 x2 y1 y2
    have HX := Lib.hid hx
    have HY := Lib.hid hy
    clear hx hy
    go_enter Try.func85, Try.ntmps85
    go_wp2_with fail
    refine (rright_any _ _ _ [a, b] _ (row2 w a b 36)).mono ?_
    rintro e w' ⟨rfl, rfl⟩
    go_wp2_with fail
    refine (mag_any a x s _ a1 HX.out).mono ?_
    rintro e w' ⟨rfl, rfl⟩
    go_wp2_with fail
    refine (mag_any b y t _ b1 HY.out).mono ?_
    rintro e w' ⟨rfl, rfl⟩
    go_wp2_with fail
    refine (floored_any _ _ _ _ (by omega) (by omega)).mono ?_
    rintro e w' ⟨rfl, rfl⟩
    go_wp2
    go_ret2
    exact ⟨rfl, alloc_below _ _⟩
  · have h' : (okB a && okB b) = false := by simpa using h
    rw [(mul_no h').1, (mul_no h').2]
    have hr : rightB [a, b] = false := by rw [rightB2]; exact h'
    clear h h'
    go_enter Try.func85, Try.ntmps85
    go_wp2_with (go_at_call 55; refine (rright_any _ _ _ [a, b] _ (row2 w a b 36)).mono ?_; rintro e w' ⟨rfl, rfl⟩)
    go_ret2
    exact ⟨rfl, alloc_below _ _⟩

def first3 (a b c : Int) : Int := if a = 0 then (if b = 0 then c else b) else a
def gate (e v : Int) : Int := if e = 0 then v else 0

def Blk (w : World) (g : Nat) (t : TypeId) (cs : Array Value) : Prop := w.heap[g]? = some (.cells cs t (0, 0))

theorem Blk.same {w w' : World} {g : Nat} {t : TypeId} {cs : Array Value} (h : Blk w g t cs) (e : w'.heap[g]? = w.heap[g]?) : Blk w' g t cs := by
  unfold Blk at *
  rw [e, h]
theorem Blk.lt {w : World} {g : Nat} {t : TypeId} {cs : Array Value} (h : Blk w g t cs) : g < w.heap.size := (Array.getElem?_eq_some_iff.1 h).1
theorem Blk.cell {w : World} {g : Nat} {t : TypeId} {cs : Array Value} (h : Blk w g t cs) (i : Nat) : w.cell? ⟨g, i, none⟩ = cs[i]? := by
  unfold Blk at h
  simp [World.cell?, h]
theorem Blk.frozen {w : World} {g : Nat} {t : TypeId} {cs : Array Value} (h : Blk w g t cs) (i : Nat) : w.frozen? ⟨g, i, none⟩ = false := by
  unfold Blk at h
  simp [World.frozen?, h]
theorem Blk.new (w : World) (t : TypeId) (cs : Array Value) : Blk (w.alloc (.cells cs t)) w.heap.size t cs := heap_alloc_new w (.cells cs t)
theorem Blk.keep {w w' : World} {g : Nat} {t : TypeId} {cs : Array Value} (h : Blk w g t cs) (hb : Below w.heap.size w w') : Blk w' g t cs := h.same (hb.block g h.lt)
theorem Blk.alloc {w : World} {g : Nat} {t : TypeId} {cs : Array Value} (h : Blk w g t cs) (o : Obj) : Blk (w.alloc o) g t cs := h.keep (alloc_below w o)
theorem Blk.set_ {w : World} {g : Nat} {t : TypeId} {cs : Array Value} (h : Blk w g t cs) (i : Nat) (u : Value) : Blk (w.setCell ⟨g, i, none⟩ u) g t (cs.setIfInBounds i u) := by
  unfold Blk at *
  simp [World.setCell, Array.getElem?_modify, h]
theorem Blk.far {w : World} {g : Nat} {t : TypeId} {cs : Array Value} (h : Blk w g t cs) {p : Addr} (hp : g ≠ p.block) (u : Value) : Blk (w.setCell p u) g t cs := by
  refine h.same ?_
  simp [World.setCell, Array.getElem?_modify, Ne.symm hp]
theorem blk3 {w : World} {g : Nat} {t : TypeId} {x y z : Value} (h : Blk w g t #[x, y, z]) : w.cell? ⟨g, 0, none⟩ = some x ∧ w.cell? ⟨g, 1, none⟩ = some y ∧ w.cell? ⟨g, 2, none⟩ = some z ∧ w.frozen? ⟨g, 0, none⟩ = false ∧ w.frozen? ⟨g, 1, none⟩ = false ∧ w.frozen? ⟨g, 2, none⟩ = false :=
  ⟨h.cell 0, h.cell 1, h.cell 2, h.frozen 0, h.frozen 1, h.frozen 2⟩

def Enters (F : Nat) : Prop := ∀ args w, (callFunc F args).run Try.prog w = .ok (.enter F args) w
theorem blkAt {w : World} {g g' : Nat} {t : TypeId} {cs : Array Value} (h : Blk w g t cs) (e : g = g') : Blk w g' t cs := e ▸ h

end Go.Proofs.Ytjcibffhlhdjeaa
