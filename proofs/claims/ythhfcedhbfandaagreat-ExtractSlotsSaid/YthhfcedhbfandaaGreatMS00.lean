/-
  16 texts in one file, each with its own heading.
-/
import Derived.Test.YthhfcedhbfandaaGreatRows
import Derived.WalkKit
import Derived.WalkSpells
import Derived.WalkLawsBesides
import Derived.BigQuiet
import Derived.Lib.Hide
import Derived.Deep.RegionHeld3
import Derived.Deep.MidRow
import Derived.Below
import Derived.OpenShut
import Derived.LoopN
import Derived.Laws.OwnMore
import Derived.Deep.Draws
import Derived.Laws.Rows
import Derived.Deep.OwnRows
import Derived.Maps.AppendAt
/-
  What the leaves of package fix, and of its reference, answer: each returns what its plain Lean function says, and leaves all memory that was there as it was.
-/
namespace Go.Proofs.YthhfcedhbfandaaGreat
open Go.RowKit

def okB (x : Int) : Bool := decide (-2147483648 ≤ x ∧ x ≤ 2147483647)
def rightB (zs : List Int) : Bool := zs.all okB

def Row (w : World) (a : Option Addr) (len : Nat) (zs : List Int) : Prop :=
  zs.length = len ∧ len ≤ 9223372036854775807 ∧ (len = 0 ∨ ∃ b off, a = some ⟨b, off, none⟩ ∧ ∀ i, i < len → w.cell? ⟨b, off + i, none⟩ = some (.int .i64 (zs.getD i 0)))

theorem rightB_take_succ (zs : List Int) (k : Nat) (h : k < zs.length) : rightB (zs.take (k + 1)) = (rightB (zs.take k) && okB (zs.getD k 0)) := by
  unfold rightB
  rw [List.take_add_one, List.all_append]
  simp [List.getD, List.getElem?_eq_getElem h]

theorem rightB_bad (zs : List Int) (k : Nat) (h : k < zs.length) (hb : okB (zs.getD k 0) = false) : rightB zs = false := by
  unfold rightB
  rw [List.all_eq_false]
  refine ⟨zs.getD k 0, ?_, by rw [hb]; decide⟩
  simp only [List.getD, List.getElem?_eq_getElem h, Option.getD_some]
  exact List.getElem_mem h

theorem ret_bool {a b : Bool} (h : a = b) : Ending.returned (.bool a) = .returned (.bool b) := by rw [h]
theorem ret_int {k : IntKind} {a b : Int} (h : a = b) : Ending.returned (.int k a) = .returned (.int k b) := by rw [h]
theorem okB_lo {x : Int} (h : x < -2147483648) : okB x = false := by unfold okB; rw [decide_eq_false_iff_not]; omega
theorem okB_hi {x : Int} (h : 2147483647 < x) : okB x = false := by unfold okB; rw [decide_eq_false_iff_not]; omega
theorem okB_yes {x : Int} (h : -2147483648 ≤ x) (h2 : x ≤ 2147483647) : okB x = true := by unfold okB; rw [decide_eq_true_iff]; omega
theorem okB_iff {x : Int} : okB x = true ↔ (-2147483648 ≤ x ∧ x ≤ 2147483647) := by unfold okB; simp

set_option maxHeartbeats 400000 in
theorem right_empty (a : Option Addr) (cap : Nat) (w : World) :
    Calls Tryz.prog 249 #[.slice a 0 cap] w fun e w' => e = .returned (.bool true) ∧ w = w' := by
  go_enter Tryz.func249, Tryz.ntmps249
  go_wp2
  go_loop [7] (fun i => i = .int .i64 0) (fun _ => 0)
  case atStart => rfl
  case round =>
    obtain rfl := hrel
    go_wp2
    go_ret
    exact ⟨rfl, rfl⟩

set_option maxHeartbeats 400000 in
theorem right_row (b off len cap : Nat) (zs : List Int) (w : World) (hl : zs.length = len) (hbig : len ≤ 9223372036854775807) (hc : ∀ j, j < len → w.cell? ⟨b, off + j, none⟩ = some (.int .i64 (zs.getD j 0))) :
    Calls Tryz.prog 249 #[.slice (some ⟨b, off, none⟩) len cap] w fun e w' => e = .returned (.bool (rightB zs)) ∧ w = w' := by
  have HL := Lib.hid hl
  have HC := Lib.hid hc
  clear hl hc
  go_enter Tryz.func249, Tryz.ntmps249
  go_wp2
  go_loop [7] (fun i => ∃ k : Nat, k ≤ len ∧ i = .int .i64 k ∧ rightB (zs.take k) = true) (fun i => len - (intOf i).toNat)
  case atStart => exact ⟨0, Nat.zero_le _, rfl, rfl⟩
  case round =>
    obtain ⟨k, hk, rfl, hr⟩ := hrel
    have HR := Lib.hid hr
    clear hr
    by_cases hlt : k < len
    · have hk' : k < zs.length := by rw [HL.out]; exact hlt
      obtain ⟨x, hx⟩ : ∃ x, x = zs.getD k 0 := ⟨_, rfl⟩
      have hcell := HC.out k hlt
      have H1 := Lib.hid (rightB_take_succ zs k hk')
      have H2 := Lib.hid (rightB_bad zs k hk')
      rw [← hx] at hcell
      rw [← hx] at H1 H2
      clear hx hk'
      by_cases hlo : x < -2147483648
      · go_wp2
        go_ret
        exact ⟨ret_bool (H2.out (okB_lo hlo)).symm, rfl⟩
      · by_cases hhi : 2147483647 < x
        · go_wp2
          go_ret
          exact ⟨ret_bool (H2.out (okB_hi hhi)).symm, rfl⟩
        · go_wp2
          go_round
          case rel => exact ⟨k + 1, by omega, by go_num, by rw [H1.out, HR.out, okB_yes (by omega) (by omega)]; rfl⟩
          case measure => simp [intOf]; omega
    · go_wp2
      go_ret
      have e : zs.take k = zs := List.take_of_length_le (by rw [HL.out]; omega)
      exact ⟨ret_bool (by rw [← HR.out, e]), rfl⟩

theorem right_any (a : Option Addr) (len cap : Nat) (zs : List Int) (w : World) (h : Row w a len zs) :
    Calls Tryz.prog 249 #[.slice a len cap] w fun e w' => e = .returned (.bool (rightB zs)) ∧ w = w' := by
  obtain ⟨hl, hm, h0 | ⟨b, off, rfl, hc⟩⟩ := h
  · subst h0
    obtain rfl := List.eq_nil_of_length_eq_zero hl
    exact right_empty a cap w
  · exact right_row b off len cap zs w hl hm hc

theorem tk {P : Program} {ops : Array Oper} {md : Region.Mode} {Q : Exit → Go.Act → World → Prop} {S : World → Prop} (i : Nat) {oi : Oper} {v : Value} {fuel : Nat} {l : Array Bool} {a a' : Go.Act} {w : World} (hS : S w) (h : wpAnyH P md ops Q S fuel (l.setIfInBounds i true) a' w)
    (hi : ops[i]? = some oi := by rfl) (hs : Region.noSelect ops = true := by kernel_rfl) (hf : Region.free md ops l i = true := by kernel_rfl) (hr : (Region.ready md ops l).contains i = true := by kernel_rfl) (hw : Region.wanted oi (yielded ops a.tmps) = true := by rfl)
    (hy : ∀ w, S w → (execOp a.eval oi).run P w = .ok (.value v) w := by (intro w hSw; (try dsimp only at hSw); go_split_ands; go_simp; with_reducible rfl))
    (ha : a.put oi.dst v = a' := by (simp only [Go.Act.put, List.getElem_toArray, List.getElem_cons_zero, List.getElem_cons_succ, List.setIfInBounds_toArray, List.set_cons_zero, List.set_cons_succ]; try rfl))
    (hQ : ∀ c a w, Q (.panic c) (a.put oi.dst v) w → Q (.panic c) a w := by exact fun _ _ _ h => h) : wpAnyH P md ops Q S (fuel + 1) l a w :=
  wpAnyH_take hi hs hf hr hQ (Or.inl ⟨hw, hy⟩) hS (by rw [ha]; exact h)
theorem tks {P : Program} {ops : Array Oper} {md : Region.Mode} {Q : Exit → Go.Act → World → Prop} {S : World → Prop} (i : Nat) {oi : Oper} {fuel : Nat} {l : Array Bool} {a a' : Go.Act} {w : World} (hS : S w) (h : wpAnyH P md ops Q S fuel (l.setIfInBounds i true) a' w)
    (hi : ops[i]? = some oi := by rfl) (hs : Region.noSelect ops = true := by kernel_rfl) (hf : Region.free md ops l i = true := by kernel_rfl) (hr : (Region.ready md ops l).contains i = true := by kernel_rfl) (hw : Region.wanted oi (yielded ops a.tmps) = false := by rfl)
    (ha : a.put oi.dst undef = a' := by (simp only [Go.Act.put, List.getElem_toArray, List.getElem_cons_zero, List.getElem_cons_succ, List.setIfInBounds_toArray, List.set_cons_zero, List.set_cons_succ]; try rfl))
    (hQ : ∀ c a w, Q (.panic c) (a.put oi.dst undef) w → Q (.panic c) a w := by exact fun _ _ _ h => h) : wpAnyH P md ops Q S (fuel + 1) l a w :=
  wpAnyH_take hi hs hf hr hQ (Or.inr ⟨hw, rfl⟩) hS (by rw [ha]; exact h)
theorem tkl {P : Program} {ops : Array Oper} {md : Region.Mode} {Q : Exit → Go.Act → World → Prop} {S : World → Prop} (i : Nat) {oi : Oper} {v : Value} {fuel : Nat} {l : Array Bool} {a a' : Go.Act} {w : World} (hi : ops[i]? = some oi) (hy : YieldsIf P ops S oi v a) (hS : S w) (h : wpAnyH P md ops Q S fuel (l.setIfInBounds i true) a' w)
    (hs : Region.noSelect ops = true := by kernel_rfl) (hf : Region.free md ops l i = true := by kernel_rfl) (hr : (Region.ready md ops l).contains i = true := by kernel_rfl)
    (ha : a.put oi.dst v = a' := by (simp only [Go.Act.put, List.getElem_toArray, List.getElem_cons_zero, List.getElem_cons_succ, List.setIfInBounds_toArray, List.set_cons_zero, List.set_cons_succ]; try rfl))
    (hQ : ∀ c a w, Q (.panic c) (a.put oi.dst v) w → Q (.panic c) a w := by exact fun _ _ _ h => h) : wpAnyH P md ops Q S (fuel + 1) l a w :=
  wpAnyH_take hi hs hf hr hQ hy hS (by rw [ha]; exact h)
theorem rd {P : Program} {ops : Array Oper} {md : Region.Mode} {Q : Exit → Go.Act → World → Prop} {S : World → Prop} (i : Nat) {o : Oper} {fuel : Nat} {l : Array Bool} {a : Go.Act} {w : World}
    (h : ∀ K' : Go.Act → World → Prop, Shut (∀ a w, S w → (S w → wpAnyH P md ops Q S fuel (l.setIfInBounds i true) a w) → K' a w) → if Region.wanted o (yielded ops a.tmps) = true then Oper.wp P o a w K' Q else K' (a.put o.dst undef) w)
    (ho : ops[i]? = some o := by rfl) (hr : Region.ready md ops l = [i] := by kernel_rfl) : wpAnyH P md ops Q S (fuel + 1) l a w :=
  wpAnyH_ready hr (by simp) (AllReadyH.cons ho h AllReadyH.nil)
theorem row1 (w : World) (x : Int) (t : TypeId) : Row (w.alloc (.cells #[.int .i64 x] t)) (some ⟨w.heap.size, 0, none⟩) 1 [x] := by
  refine ⟨rfl, by omega, Or.inr ⟨_, _, rfl, fun i hi => ?_⟩⟩
  obtain rfl : i = 0 := by omega
  simp [List.getD]

theorem row2 (w : World) (x y : Int) (t : TypeId) : Row (w.alloc (.cells #[.int .i64 x, .int .i64 y] t)) (some ⟨w.heap.size, 0, none⟩) 2 [x, y] := by
  refine ⟨rfl, by omega, Or.inr ⟨_, _, rfl, fun i hi => ?_⟩⟩
  obtain rfl | rfl : i = 0 ∨ i = 1 := by omega
  · simp [List.getD]
  · simp [List.getD]

theorem rightB1 (x : Int) : rightB [x] = okB x := by simp [rightB]
theorem rightB2 (x y : Int) : rightB [x, y] = (okB x && okB y) := by simp [rightB]

def fitV (x : Int) : Int := if okB x then x else 0
def fitE (x : Int) : Int := if okB x then 0 else 6

theorem alloc_below (w : World) (o : Obj) : Below w.heap.size w (w.alloc o) := (Below.refl _ _).alloc (Nat.le_refl _) o

theorem bthen {w a b : World} (h : Below w.heap.size w a) (k : Below a.heap.size a b) : Below w.heap.size w b := h.trans (k.mono h.size)
theorem balloc {w a : World} (h : Below w.heap.size w a) (o : Obj) : Below w.heap.size w (a.alloc o) := h.alloc h.size o
set_option maxHeartbeats 400000 in
theorem fit_any (x : Int) (w : World) :
    Calls Tryz.prog 321 #[.int .i64 x] w fun e w' => e = .returned (.tuple #[.int .i64 (fitV x), .int .i64 (fitE x)]) ∧ Below w.heap.size w w' := by
  by_cases h : okB x = true
  · have e1 : fitV x = x := by unfold fitV; rw [if_pos h]
    have e2 : fitE x = 0 := by unfold fitE; rw [if_pos h]
    rw [e1, e2]
    clear e1 e2
    have hr : rightB [x] = true := by rw [rightB1]; exact h
    clear h
    go_enter Tryz.func321, Tryz.ntmps321
    go_wp2_with (go_at_call 249; refine (right_any _ _ _ [x] _ (row1 w x 44)).mono ?_; rintro e w' ⟨rfl, rfl⟩)
    go_ret2
    exact ⟨rfl, alloc_below _ _⟩
  · have h' : okB x = false := by simpa using h
    have e1 : fitV x = 0 := by unfold fitV; rw [if_neg h]
    have e2 : fitE x = 6 := by unfold fitE; rw [if_neg h]
    rw [e1, e2]
    clear e1 e2
    have hr : rightB [x] = false := by rw [rightB1]; exact h'
    clear h h'
    go_enter Tryz.func321, Tryz.ntmps321
    go_wp2_with (go_at_call 249; refine (right_any _ _ _ [x] _ (row1 w x 44)).mono ?_; rintro e w' ⟨rfl, rfl⟩)
    go_ret2
    exact ⟨rfl, alloc_below _ _⟩

end Go.Proofs.YthhfcedhbfandaaGreat
namespace Go.Proofs.YthhfcedhbfandaaGreat
set_option linter.unusedVariables false

end Go.Proofs.YthhfcedhbfandaaGreat
namespace Go.Proofs.YthhfcedhbfandaaGreat
open Go.RowKit

theorem mul_bound {a b : Int} (ha : okB a = true) (hb : okB b = true) : -4611686018427387904 ≤ a * b ∧ a * b ≤ 4611686018427387904 := by
  rw [okB_iff] at ha hb
  have h : (a * b).natAbs ≤ 2147483648 * 2147483648 := by
    rw [Int.natAbs_mul]
    exact Nat.mul_le_mul (by omega) (by omega)
  omega

def mulV (a b : Int) : Int := if okB a && okB b then fitV (a * b / 65536) else 0
def mulE (a b : Int) : Int := if okB a && okB b then fitE (a * b / 65536) else 1

set_option maxHeartbeats 400000 in
theorem mul_any (a b : Int) (w : World) :
    Calls Tryz.prog 313 #[.int .i64 a, .int .i64 b] w fun e w' => e = .returned (.tuple #[.int .i64 (mulV a b), .int .i64 (mulE a b)]) ∧ Below w.heap.size w w' := by
  by_cases h : (okB a && okB b) = true
  · have e1 : mulV a b = fitV (a * b / 65536) := by unfold mulV; rw [if_pos h]
    have e2 : mulE a b = fitE (a * b / 65536) := by unfold mulE; rw [if_pos h]
    rw [e1, e2]
    clear e1 e2
    have hr : rightB [a, b] = true := by rw [rightB2]; exact h
    obtain ⟨ha, hb⟩ := Bool.and_eq_true_iff.1 h
    obtain ⟨hm1, hm2⟩ := mul_bound ha hb
    clear h ha hb
    go_enter Tryz.func313, Tryz.ntmps313
    go_wp2_with (first | (go_at_call 249; refine (right_any _ _ _ [a, b] _ (row2 w a b 44)).mono ?_; rintro e w' ⟨rfl, rfl⟩) | (go_at_call 321; refine (fit_any _ _).mono ?_; rintro e w' ⟨rfl, hb⟩))
    go_ret2
    exact ⟨rfl, (alloc_below w _).trans (hb.mono (by simp))⟩
  · have h' : (okB a && okB b) = false := by simpa using h
    have e1 : mulV a b = 0 := by unfold mulV; rw [if_neg h]
    have e2 : mulE a b = 1 := by unfold mulE; rw [if_neg h]
    rw [e1, e2]
    clear e1 e2
    have hr : rightB [a, b] = false := by rw [rightB2]; exact h'
    clear h h'
    go_enter Tryz.func313, Tryz.ntmps313
    go_wp2_with (go_at_call 249; refine (right_any _ _ _ [a, b] _ (row2 w a b 44)).mono ?_; rintro e w' ⟨rfl, rfl⟩)
    go_ret2
    exact ⟨rfl, alloc_below _ _⟩

theorem okB_getD (zs : List Int) (k : Nat) (h : rightB zs = true) (hk : k < zs.length) : -2147483648 ≤ zs.getD k 0 ∧ zs.getD k 0 ≤ 2147483647 := by
  unfold rightB at h
  rw [List.all_eq_true] at h
  have hm : zs.getD k 0 ∈ zs := by
    simp only [List.getD, List.getElem?_eq_getElem hk, Option.getD_some]
    exact List.getElem_mem hk
  exact okB_iff.1 (h _ hm)

theorem sum_succ (zs : List Int) (k : Nat) (h : k < zs.length) : (zs.take (k + 1)).sum = (zs.take k).sum + zs.getD k 0 := by
  rw [List.take_add_one, List.sum_append]
  simp [List.getD, List.getElem?_eq_getElem h]

theorem sum_bd (zs : List Int) (h : rightB zs = true) : ∀ k : Nat, k ≤ zs.length → -2147483648 * (k : Int) ≤ (zs.take k).sum ∧ (zs.take k).sum ≤ 2147483648 * (k : Int)
  | 0, _ => by simp
  | k + 1, hk => by
    have ih := sum_bd zs h k (by omega)
    have hb := okB_getD zs k h (by omega)
    rw [sum_succ zs k (by omega)]
    omega

def addOk (zs : List Int) : Bool := decide (zs.length ≤ 1024) && rightB zs
def addV (zs : List Int) : Int := if addOk zs then fitV zs.sum else 0
def addE (zs : List Int) : Int := if addOk zs then fitE zs.sum else 1

set_option maxHeartbeats 400000 in
theorem add_row (b off len cap : Nat) (zs : List Int) (w : World) (hl : zs.length = len) (hle : len ≤ 1024) (hr : rightB zs = true) (hc : ∀ j, j < len → w.cell? ⟨b, off + j, none⟩ = some (.int .i64 (zs.getD j 0))) :
    Calls Tryz.prog 314 #[.slice (some ⟨b, off, none⟩) len cap] w fun e w' => e = .returned (.tuple #[.int .i64 (fitV zs.sum), .int .i64 (fitE zs.sum)]) ∧ Below w.heap.size w w' := by
  have HL := Lib.hid hl
  have HC := Lib.hid hc
  have HB := Lib.hid (sum_bd zs hr)
  have HO := Lib.hid (okB_getD zs · hr)
  have row : Row w (some ⟨b, off, none⟩) len zs := ⟨hl, by omega, Or.inr ⟨b, off, rfl, hc⟩⟩
  have HRow := Lib.hid row
  clear hl hc row
  go_enter Tryz.func314, Tryz.ntmps314
  go_wp2_with (go_at_call 249; refine (right_any _ _ _ zs _ HRow.out).mono ?_; rintro e w' ⟨rfl, rfl⟩)
  go_loop [4, 17] (fun s i => ∃ k : Nat, k ≤ len ∧ i = .int .i64 k ∧ s = .int .i64 (zs.take k).sum) (fun _ i => len - (intOf i).toNat)
  case atStart => exact ⟨0, Nat.zero_le _, rfl, rfl⟩
  case round =>
    obtain ⟨k, hk, rfl, rfl⟩ := hrel
    obtain ⟨s1, s2⟩ := HB.out k (by rw [HL.out]; exact hk)
    by_cases hlt : k < len
    · have hk' : k < zs.length := by rw [HL.out]; exact hlt
      obtain ⟨x, hx⟩ : ∃ x, x = zs.getD k 0 := ⟨_, rfl⟩
      have hcell := HC.out k hlt
      obtain ⟨x1, x2⟩ := HO.out k hk'
      have H1 := Lib.hid (sum_succ zs k hk')
      rw [← hx] at hcell x1 x2
      rw [← hx] at H1
      clear hx hk'
      go_wp2
      go_round
      case rel => exact ⟨k + 1, by omega, by go_num, by rw [H1.out]⟩
      case measure => simp [intOf]; omega
    · have e : zs.take k = zs := List.take_of_length_le (by rw [HL.out]; omega)
      rw [e] at *
      clear e
      go_wp2_with (go_at_call 321; refine (fit_any _ _).mono ?_; rintro e w' ⟨rfl, hb⟩)
      go_ret2
      exact ⟨rfl, hb⟩

set_option maxHeartbeats 400000 in
theorem add_empty (a : Option Addr) (cap : Nat) (w : World) :
    Calls Tryz.prog 314 #[.slice a 0 cap] w fun e w' => e = .returned (.tuple #[.int .i64 (fitV 0), .int .i64 (fitE 0)]) ∧ Below w.heap.size w w' := by
  go_enter Tryz.func314, Tryz.ntmps314
  go_wp2_with (go_at_call 249; refine (right_empty _ _ _).mono ?_; rintro e w' ⟨rfl, rfl⟩)
  go_loop [4, 17] (fun s i => i = .int .i64 0 ∧ s = .int .i64 0) (fun _ _ => 0)
  case atStart => exact ⟨rfl, rfl⟩
  case round =>
    obtain ⟨rfl, rfl⟩ := hrel
    go_wp2_with (go_at_call 321; refine (fit_any _ _).mono ?_; rintro e w' ⟨rfl, hb⟩)
    go_ret2
    exact ⟨rfl, hb⟩

set_option maxHeartbeats 400000 in
theorem add_many (a : Option Addr) (len cap : Nat) (w : World) (h : 1024 < len) (hbig : len ≤ 9223372036854775807) :
    Calls Tryz.prog 314 #[.slice a len cap] w fun e w' => e = .returned (.tuple #[.int .i64 0, .int .i64 1]) ∧ Below w.heap.size w w' := by
  go_enter Tryz.func314, Tryz.ntmps314
  go_wp2
  go_ret2
  exact ⟨rfl, Below.refl _ _⟩

set_option maxHeartbeats 400000 in
theorem add_wrong (a : Option Addr) (len cap : Nat) (zs : List Int) (w : World) (h : len ≤ 1024) (hr : rightB zs = false) (row : Row w a len zs) :
    Calls Tryz.prog 314 #[.slice a len cap] w fun e w' => e = .returned (.tuple #[.int .i64 0, .int .i64 1]) ∧ Below w.heap.size w w' := by
  have HRow := Lib.hid row
  clear row
  go_enter Tryz.func314, Tryz.ntmps314
  go_wp2_with (go_at_call 249; refine (right_any _ _ _ zs _ HRow.out).mono ?_; rintro e w' ⟨rfl, rfl⟩)
  go_ret2
  exact ⟨rfl, Below.refl _ _⟩

theorem addOk_many {zs : List Int} {len : Nat} (hl : zs.length = len) (h : 1024 < len) : addOk zs = false := by
  unfold addOk; rw [decide_eq_false (by omega)]; rfl
theorem addOk_wrong {zs : List Int} (h : rightB zs = false) : addOk zs = false := by unfold addOk; rw [h, Bool.and_false]
theorem addOk_yes {zs : List Int} {len : Nat} (hl : zs.length = len) (h : len ≤ 1024) (hr : rightB zs = true) : addOk zs = true := by
  unfold addOk; rw [decide_eq_true (by omega), hr]; rfl
theorem addV_no {zs : List Int} (h : addOk zs = false) : addV zs = 0 := by unfold addV; rw [if_neg (by rw [h]; decide)]
theorem addE_no {zs : List Int} (h : addOk zs = false) : addE zs = 1 := by unfold addE; rw [if_neg (by rw [h]; decide)]
theorem addV_yes {zs : List Int} (h : addOk zs = true) : addV zs = fitV zs.sum := by unfold addV; rw [if_pos h]
theorem addE_yes {zs : List Int} (h : addOk zs = true) : addE zs = fitE zs.sum := by unfold addE; rw [if_pos h]

theorem add_any (a : Option Addr) (len cap : Nat) (zs : List Int) (w : World) (h : Row w a len zs) :
    Calls Tryz.prog 314 #[.slice a len cap] w fun e w' => e = .returned (.tuple #[.int .i64 (addV zs), .int .i64 (addE zs)]) ∧ Below w.heap.size w w' := by
  have row := h
  obtain ⟨hl, hm, h0⟩ := h
  by_cases hn : 1024 < len
  · rw [addV_no (addOk_many hl hn), addE_no (addOk_many hl hn)]
    exact add_many a len cap w hn hm
  · by_cases hr : rightB zs = true
    · rw [addV_yes (addOk_yes hl (by omega) hr), addE_yes (addOk_yes hl (by omega) hr)]
      rcases h0 with h0 | ⟨b, off, rfl, hc⟩
      · subst h0
        obtain rfl := List.eq_nil_of_length_eq_zero hl
        exact add_empty a cap w
      · exact add_row b off len cap zs w hl (by omega) hr hc
    · have hr' : rightB zs = false := by simpa using hr
      rw [addV_no (addOk_wrong hr'), addE_no (addOk_wrong hr')]
      exact add_wrong a len cap zs w (by omega) hr' row

theorem mul_yes {a b : Int} (h : (okB a && okB b) = true) : mulV a b = fitV (a * b / 65536) ∧ mulE a b = fitE (a * b / 65536) := by
  unfold mulV mulE; rw [if_pos h, if_pos h]; exact ⟨rfl, rfl⟩
theorem mul_no {a b : Int} (h : (okB a && okB b) = false) : mulV a b = 0 ∧ mulE a b = 1 := by
  have h' : ¬ (okB a && okB b) = true := by rw [h]; decide
  unfold mulV mulE; rw [if_neg h', if_neg h']; exact ⟨rfl, rfl⟩

def first3 (a b c : Int) : Int := if a = 0 then (if b = 0 then c else b) else a
def gate (e v : Int) : Int := if e = 0 then v else 0

def Blk (w : World) (g : Nat) (t : TypeId) (cs : Array Value) : Prop := w.heap[g]? = some (.cells cs t (0, 0))

theorem Blk.same {w w' : World} {g : Nat} {t : TypeId} {cs : Array Value} (h : Blk w g t cs) (e : w'.heap[g]? = w.heap[g]?) : Blk w' g t cs := by
  unfold Blk at *
  rw [e, h]
theorem Blk.lt {w : World} {g : Nat} {t : TypeId} {cs : Array Value} (h : Blk w g t cs) : g < w.heap.size := (Array.getElem?_eq_some_iff.1 h).1
theorem Blk.cell {w : World} {g : Nat} {t : TypeId} {cs : Array Value} (h : Blk w g t cs) (i : Nat) : w.cell? ⟨g, i, none⟩ = cs[i]? := by
  unfold Blk at h
  simp [World.cell?, h]
theorem Blk.frozen {w : World} {g : Nat} {t : TypeId} {cs : Array Value} (h : Blk w g t cs) (i : Nat) : w.frozen? ⟨g, i, none⟩ = false := by
  unfold Blk at h
  simp [World.frozen?, h]
theorem Blk.new (w : World) (t : TypeId) (cs : Array Value) : Blk (w.alloc (.cells cs t)) w.heap.size t cs := heap_alloc_new w (.cells cs t)
theorem Blk.keep {w w' : World} {g : Nat} {t : TypeId} {cs : Array Value} (h : Blk w g t cs) (hb : Below w.heap.size w w') : Blk w' g t cs := h.same (hb.block g h.lt)
theorem Blk.alloc {w : World} {g : Nat} {t : TypeId} {cs : Array Value} (h : Blk w g t cs) (o : Obj) : Blk (w.alloc o) g t cs := h.keep (alloc_below w o)
theorem Blk.set_ {w : World} {g : Nat} {t : TypeId} {cs : Array Value} (h : Blk w g t cs) (i : Nat) (u : Value) : Blk (w.setCell ⟨g, i, none⟩ u) g t (cs.setIfInBounds i u) := by
  unfold Blk at *
  simp [World.setCell, Array.getElem?_modify, h]
theorem Blk.far {w : World} {g : Nat} {t : TypeId} {cs : Array Value} (h : Blk w g t cs) {p : Addr} (hp : g ≠ p.block) (u : Value) : Blk (w.setCell p u) g t cs := by
  refine h.same ?_
  simp [World.setCell, Array.getElem?_modify, Ne.symm hp]
theorem blk3 {w : World} {g : Nat} {t : TypeId} {x y z : Value} (h : Blk w g t #[x, y, z]) : w.cell? ⟨g, 0, none⟩ = some x ∧ w.cell? ⟨g, 1, none⟩ = some y ∧ w.cell? ⟨g, 2, none⟩ = some z ∧ w.frozen? ⟨g, 0, none⟩ = false ∧ w.frozen? ⟨g, 1, none⟩ = false ∧ w.frozen? ⟨g, 2, none⟩ = false :=
  ⟨h.cell 0, h.cell 1, h.cell 2, h.frozen 0, h.frozen 1, h.frozen 2⟩

def Enters (F : Nat) : Prop := ∀ args w, (callFunc F args).run Tryz.prog w = .ok (.enter F args) w
theorem blkAt {w : World} {g g' : Nat} {t : TypeId} {cs : Array Value} (h : Blk w g t cs) (e : g = g') : Blk w g' t cs := e ▸ h

abbrev V3 := Int × Int × Int
def ok3 (x y z : Int) : Bool := rightB [x, y, z]
def okV (v : V3) : Bool := ok3 v.1 v.2.1 v.2.2
def rightV (vs : List V3) : Bool := vs.all okV
def zeroV : V3 := (0, 0, 0)

theorem cell_lt {w : World} {x : Addr} {v : Value} (h : w.cell? x = some v) : x.block < w.heap.size := by
  by_cases hb : x.block < w.heap.size
  · exact hb
  · have e : w.heap[x.block]? = none := Array.getElem?_eq_none (by omega)
    simp [World.cell?, e] at h

theorem cell_keep {w w' : World} {x : Addr} {v : Value} (h : w.cell? x = some v) (hb : Below w.heap.size w w') : w'.cell? x = some v := by
  rw [hb.cell (cell_lt h)]; exact h

theorem row_keep {w w' : World} {a : Option Addr} {len : Nat} {zs : List Int} (h : Row w a len zs) (hb : Below w.heap.size w w') : Row w' a len zs := by
  obtain ⟨h1, h2, h3⟩ := h
  refine ⟨h1, h2, ?_⟩
  rcases h3 with h3 | ⟨b, off, e, hc⟩
  · exact Or.inl h3
  · exact Or.inr ⟨b, off, e, fun i hi => cell_keep (hc i hi) hb⟩

def VRow (w : World) (a : Option Addr) (len : Nat) (vs : List V3) : Prop :=
  vs.length = len ∧ len ≤ 9223372036854775807 ∧ (len = 0 ∨ ∃ b off, a = some ⟨b, off, none⟩ ∧ ∀ i, i < len →
    w.cell? ⟨b, off + i * 3, none⟩ = some (.int .i64 (vs.getD i zeroV).1) ∧ w.cell? ⟨b, off + i * 3 + 1, none⟩ = some (.int .i64 (vs.getD i zeroV).2.1) ∧ w.cell? ⟨b, off + i * 3 + 2, none⟩ = some (.int .i64 (vs.getD i zeroV).2.2))

theorem vrow_keep {w w' : World} {a : Option Addr} {len : Nat} {vs : List V3} (h : VRow w a len vs) (hb : Below w.heap.size w w') : VRow w' a len vs := by
  obtain ⟨h1, h2, h3⟩ := h
  refine ⟨h1, h2, ?_⟩
  rcases h3 with h3 | ⟨b, off, e, hc⟩
  · exact Or.inl h3
  · exact Or.inr ⟨b, off, e, fun i hi => ⟨cell_keep (hc i hi).1 hb, cell_keep (hc i hi).2.1 hb, cell_keep (hc i hi).2.2 hb⟩⟩

theorem VRow.at_ {w : World} {a : Option Addr} {len k : Nat} {vs : List V3} (h : VRow w a len vs) (hk : k < len) :
    ∃ b off x y z, a = some ⟨b, off, none⟩ ∧ vs[k]? = some (x, y, z) ∧ w.cell? ⟨b, off + k * 3, none⟩ = some (.int .i64 x) ∧ w.cell? ⟨b, off + k * 3 + 1, none⟩ = some (.int .i64 y) ∧ w.cell? ⟨b, off + k * 3 + 2, none⟩ = some (.int .i64 z) := by
  obtain ⟨h1, h2, h3⟩ := h
  rcases h3 with h3 | ⟨b, off, rfl, hc⟩
  · omega
  · have hk' : k < vs.length := by omega
    obtain ⟨c0, c1, c2⟩ := hc k hk
    have e : vs.getD k zeroV = vs[k] := by simp [List.getD, List.getElem?_eq_getElem hk']
    rw [e] at c0 c1 c2
    exact ⟨b, off, _, _, _, rfl, List.getElem?_eq_getElem hk', c0, c1, c2⟩

theorem rightV_succ {vs : List V3} {k : Nat} {x y z : Int} (h : vs[k]? = some (x, y, z)) (hr : rightV (vs.take k) = true) (ho : ok3 x y z = true) : rightV (vs.take (k + 1)) = true := by
  unfold rightV at hr ⊢
  rw [List.take_add_one, List.all_append, hr, h]
  simpa [okV] using ho
theorem rightV_bad {vs : List V3} {k : Nat} {x y z : Int} (h : vs[k]? = some (x, y, z)) (ho : ok3 x y z = false) : rightV vs = false := by
  unfold rightV
  rw [List.all_eq_false]
  exact ⟨(x, y, z), List.mem_of_getElem? h, by simpa [okV] using ho⟩
theorem rightV_all {vs : List V3} {k : Nat} (hr : rightV (vs.take k) = true) (h : vs.length ≤ k) : rightV vs = true := by
  rwa [List.take_of_length_le h] at hr

theorem row3 {w : World} {g : Nat} {t : TypeId} {x y z : Int} (h : Blk w g t #[.int .i64 x, .int .i64 y, .int .i64 z]) : Row w (some ⟨g, 0, none⟩) 3 [x, y, z] := by
  refine ⟨rfl, by omega, Or.inr ⟨_, _, rfl, fun i hi => ?_⟩⟩
  obtain rfl | rfl | rfl : i = 0 ∨ i = 1 ∨ i = 2 := by omega
  · exact h.cell 0
  · exact h.cell 1
  · exact h.cell 2

theorem right3_yes {w : World} {g cap : Nat} {t : TypeId} {x y z : Int} (ho : ok3 x y z = true) (h : Blk w g t #[.int .i64 x, .int .i64 y, .int .i64 z]) :
    Calls Tryz.prog 249 #[.slice (some ⟨g, 0, none⟩) 3 cap] w fun e w' => e = .returned (.bool true) ∧ w = w' :=
  (right_any _ 3 cap [x, y, z] w (row3 h)).mono fun _ _ ⟨he, hw⟩ => ⟨by rw [he, show rightB [x, y, z] = true from ho], hw⟩
theorem right3_no {w : World} {g cap : Nat} {t : TypeId} {x y z : Int} (ho : ok3 x y z = false) (h : Blk w g t #[.int .i64 x, .int .i64 y, .int .i64 z]) :
    Calls Tryz.prog 249 #[.slice (some ⟨g, 0, none⟩) 3 cap] w fun e w' => e = .returned (.bool false) ∧ w = w' :=
  (right_any _ 3 cap [x, y, z] w (row3 h)).mono fun _ _ ⟨he, hw⟩ => ⟨by rw [he, show rightB [x, y, z] = false from ho], hw⟩

set_option maxHeartbeats 400000 in
theorem vright_any (a : Option Addr) (len cap : Nat) (vs : List V3) (w : World) (row : VRow w a len vs) :
    Calls Tryz.prog 277 #[.slice a len cap] w fun e w' => e = .returned (.bool (rightV vs)) ∧ Below w.heap.size w w' := by
  have HL := Lib.hid row.1
  have hbig := row.2.1
  have HRow := Lib.hid row
  clear row
  go_enter Tryz.func277, Tryz.ntmps277
  go_wp2
  go_loopw [4, 7] (fun _ i wr => ∃ k : Nat, k ≤ len ∧ i = .int .i64 k ∧ rightV (vs.take k) = true ∧ Below w.heap.size w wr) (fun _ i _ => len - (intOf i).toNat)
  case atStart => exact ⟨0, Nat.zero_le _, rfl, rfl, Below.refl _ _⟩
  case round =>
    obtain ⟨k, hk, rfl, hr, hb⟩ := hrel
    have HR := Lib.hid hr
    have HB := Lib.hid hb
    clear hr hb
    by_cases hlt : k < len
    · obtain ⟨b, off, x, y, z, rfl, hv, c0, c1, c2⟩ := (vrow_keep HRow.out HB.out).at_ hlt
      have HV := Lib.hid hv
      clear hv
      by_cases ho : ok3 x y z = true
      · have HO := Lib.hid ho
        clear ho
        go_wp2_with (go_at_call 249; refine (right3_yes HO.out (Blk.new _ _ _)).mono ?_; rintro e w' ⟨rfl, rfl⟩)
        go_roundw
        case rel => exact ⟨k + 1, by omega, by go_num, rightV_succ HV.out HR.out HO.out, balloc HB.out _⟩
        case measure => simp [intOf]; omega
      · have ho' : ok3 x y z = false := by simpa using ho
        have HO := Lib.hid ho'
        clear ho ho'
        go_wp2_with (go_at_call 249; refine (right3_no HO.out (Blk.new _ _ _)).mono ?_; rintro e w' ⟨rfl, rfl⟩)
        go_ret
        exact ⟨ret_bool (rightV_bad HV.out HO.out).symm, balloc HB.out _⟩
    · go_wp2
      go_ret
      exact ⟨ret_bool (rightV_all HR.out (by rw [HL.out]; omega)).symm, HB.out⟩

theorem bdrew {w w1 : World} (h : Below w.drew.heap.size w.drew w1) : Below w.heap.size w w1 := ⟨h.os, h.tape, h.output, h.size, h.block⟩
theorem cell_keepD {w w' : World} {x : Addr} {v : Value} (hb : Below w.drew.heap.size w.drew w') (h : w.cell? x = some v) : w'.cell? x = some v := cell_keep h (bdrew hb)

theorem Blk.drew {w : World} {g : Nat} {t : TypeId} {cs : Array Value} (h : Blk w g t cs) : Blk w.drew g t cs := h

theorem World.rowIs.keep {w w' : World} {b : Nat} {t : TypeId} {n : Nat} {f : Nat → Value} (h : w.rowIs b t n f) (hb : Below w.heap.size w w') : w'.rowIs b t n f := h.of_block (hb.block b h.lt)

theorem row_of_is {w : World} {b : Nat} {t : TypeId} {n : Nat} {zs : List Int} (hl : zs.length = n) (hn : n ≤ 9223372036854775807) (h : w.rowIs b t n (fun j => .int .i64 (zs.getD j 0))) : Row w (some ⟨b, 0, none⟩) n zs :=
  ⟨hl, hn, Or.inr ⟨b, 0, rfl, fun i hi => by rw [Nat.zero_add]; exact h.cell hi⟩⟩

def ok6 (x0 x1 x2 y0 y1 y2 : Int) : Bool := ok3 x0 x1 x2 && ok3 y0 y1 y2
theorem rightV2 (x0 x1 x2 y0 y1 y2 : Int) : rightV [(x0, x1, x2), (y0, y1, y2)] = ok6 x0 x1 x2 y0 y1 y2 := by simp [rightV, okV, ok6]
theorem ok3_parts {x y z : Int} (h : ok3 x y z = true) : okB x = true ∧ okB y = true ∧ okB z = true := by simpa [ok3, rightB, and_assoc] using h
theorem ok6_parts {x0 x1 x2 y0 y1 y2 : Int} (h : ok6 x0 x1 x2 y0 y1 y2 = true) : ok3 x0 x1 x2 = true ∧ ok3 y0 y1 y2 = true := by simpa [ok6] using h

theorem bset3 {w a : World} {g : Nat} {u0 u1 u2 : Value} (h : Below w.heap.size w a) (hg : w.heap.size ≤ g) : Below w.heap.size w (((a.setCell ⟨g, 0, none⟩ u0).setCell ⟨g, 1, none⟩ u1).setCell ⟨g, 2, none⟩ u2) := ((h.setCell hg _).setCell hg _).setCell hg _

theorem vrow2 {w : World} {g : Nat} {t : TypeId} {x0 x1 x2 y0 y1 y2 : Int} (h : Blk w g t #[.int .i64 x0, .int .i64 x1, .int .i64 x2, .int .i64 y0, .int .i64 y1, .int .i64 y2]) : VRow w (some ⟨g, 0, none⟩) 2 [(x0, x1, x2), (y0, y1, y2)] := by
  refine ⟨rfl, by omega, Or.inr ⟨_, _, rfl, fun i hi => ?_⟩⟩
  obtain rfl | rfl : i = 0 ∨ i = 1 := by omega
  · exact ⟨h.cell 0, h.cell 1, h.cell 2⟩
  · exact ⟨h.cell 3, h.cell 4, h.cell 5⟩

theorem gate0 (v : Int) : gate 0 v = v := rfl

def bet (bt : Int → Int → Bool) (b x : Int) : Int := if bt x b then x else b
def betV (bt : Int → Int → Bool) (b x : V3) : V3 := (bet bt b.1 x.1, bet bt b.2.1 x.2.1, bet bt b.2.2 x.2.2)
def pk (bt : Int → Int → Bool) : List V3 → V3
  | [] => zeroV
  | v :: r => r.foldl (betV bt) v
def lessB (x y : Int) : Bool := decide (x < y)
def moreB (x y : Int) : Bool := decide (x > y)

theorem bet_yes {bt : Int → Int → Bool} {b x : Int} (h : bt x b = true) : bet bt b x = x := by unfold bet; rw [if_pos h]
theorem bet_no {bt : Int → Int → Bool} {b x : Int} (h : bt x b = false) : bet bt b x = b := by unfold bet; rw [h]; rfl

theorem pk_one {bt : Int → Int → Bool} {vs : List V3} {v : V3} (h : vs[0]? = some v) : pk bt (vs.take 1) = v := by
  cases vs with
  | nil => simp at h
  | cons a r => simp at h; subst h; simp [pk]
theorem pk_succ {bt : Int → Int → Bool} {vs : List V3} {v : V3} {k : Nat} (h : vs[k + 1]? = some v) : pk bt (vs.take (k + 2)) = betV bt (pk bt (vs.take (k + 1))) v := by
  cases vs with
  | nil => simp at h
  | cons a r =>
    have h' : r[k]? = some v := by simpa using h
    simp only [List.take_succ_cons, pk]
    rw [List.take_add_one, h']
    simp
theorem pk_all {bt : Int → Int → Bool} {vs : List V3} {k : Nat} (h : vs.length ≤ k) : pk bt (vs.take k) = pk bt vs := by rw [List.take_of_length_le h]

def Compares (F : Nat) (bt : Int → Int → Bool) : Prop := ∀ x y w, Calls Tryz.prog F #[.int .i64 x, .int .i64 y] w fun e w' => e = .returned (.bool (bt x y)) ∧ w = w'

set_option maxHeartbeats 400000 in
theorem less_any : Compares 306 lessB := by
  intro x y w
  unfold lessB
  go_enter Tryz.func306, Tryz.ntmps306
  go_wp2
  go_ret
  exact ⟨rfl, rfl⟩
set_option maxHeartbeats 400000 in
theorem more_any : Compares 315 moreB := by
  intro x y w
  unfold moreB
  go_enter Tryz.func315, Tryz.ntmps315
  go_wp2
  go_ret
  exact ⟨rfl, rfl⟩
theorem enters_less : Enters 306 := fun _ _ => by kernel_rfl
theorem enters_more : Enters 315 := fun _ _ => by kernel_rfl

def AGG (v : V3) : Value := .agg #[.int .i64 v.1, .int .i64 v.2.1, .int .i64 v.2.2]
def BV (w : World) (g : Nat) (v : V3) : Prop := Blk w g 48 #[.int .i64 v.1, .int .i64 v.2.1, .int .i64 v.2.2]

set_option maxHeartbeats 400000 in
theorem pick_empty (F : Nat) (a : Option Addr) (cap : Nat) (w : World) :
    Calls Tryz.prog 305 #[.slice a 0 cap, .func (.func F) #[] #[]] w fun e w' => e = .returned (.agg #[.int .i64 0, .int .i64 0, .int .i64 0]) ∧ Below w.heap.size w w' := by
  go_enter Tryz.func305, Tryz.ntmps305
  go_wp2
  exact bodyPost_ret (v := .agg #[.int .i64 0, .int .i64 0, .int .i64 0]) (by simp [results, Tryz.results305, go_sem]) rfl ⟨rfl, alloc_below _ _⟩

theorem idx0 (x y z : Int) (w : World) : (Instr.index 48 (.agg #[.int .i64 x, .int .i64 y, .int .i64 z]) (.int .i64 0)).run Tryz.prog w = .ok (.int .i64 x) w := by kernel_rfl
theorem idx1 (x y z : Int) (w : World) : (Instr.index 48 (.agg #[.int .i64 x, .int .i64 y, .int .i64 z]) (.int .i64 1)).run Tryz.prog w = .ok (.int .i64 y) w := by kernel_rfl
theorem idx2 (x y z : Int) (w : World) : (Instr.index 48 (.agg #[.int .i64 x, .int .i64 y, .int .i64 z]) (.int .i64 2)).run Tryz.prog w = .ok (.int .i64 z) w := by kernel_rfl

def mid (bt : Int → Int → Bool) (b x : V3) (p : Nat) : V3 := (if 0 < p then bet bt b.1 x.1 else b.1, if 1 < p then bet bt b.2.1 x.2.1 else b.2.1, if 2 < p then bet bt b.2.2 x.2.2 else b.2.2)

theorem mid_yes0 {bt : Int → Int → Bool} {b0 b1 b2 x y z : Int} {w : World} {g : Nat} (h : bt x b0 = true) (hB : BV w g (mid bt (b0, b1, b2) (x, y, z) 0)) : BV (w.setCell ⟨g, 0, none⟩ (.int .i64 x)) g (mid bt (b0, b1, b2) (x, y, z) 1) := by
  have h1 := Blk.set_ hB 0 (.int .i64 x)
  have e := bet_yes h
  unfold BV
  simp only [mid, e] at h1 ⊢
  exact h1
theorem mid_no0 {bt : Int → Int → Bool} {b0 b1 b2 x y z : Int} {w : World} {g : Nat} (h : bt x b0 = false) (hB : BV w g (mid bt (b0, b1, b2) (x, y, z) 0)) : BV w g (mid bt (b0, b1, b2) (x, y, z) 1) := by
  have e := bet_no h
  unfold BV at hB ⊢
  simp only [mid, e] at hB ⊢
  exact hB
theorem mid_yes1 {bt : Int → Int → Bool} {b0 b1 b2 x y z : Int} {w : World} {g : Nat} (h : bt y b1 = true) (hB : BV w g (mid bt (b0, b1, b2) (x, y, z) 1)) : BV (w.setCell ⟨g, 1, none⟩ (.int .i64 y)) g (mid bt (b0, b1, b2) (x, y, z) 2) := by
  have h1 := Blk.set_ hB 1 (.int .i64 y)
  have e := bet_yes h
  unfold BV
  simp only [mid, e] at h1 ⊢
  exact h1
theorem mid_no1 {bt : Int → Int → Bool} {b0 b1 b2 x y z : Int} {w : World} {g : Nat} (h : bt y b1 = false) (hB : BV w g (mid bt (b0, b1, b2) (x, y, z) 1)) : BV w g (mid bt (b0, b1, b2) (x, y, z) 2) := by
  have e := bet_no h
  unfold BV at hB ⊢
  simp only [mid, e] at hB ⊢
  exact hB
theorem mid_yes2 {bt : Int → Int → Bool} {b0 b1 b2 x y z : Int} {w : World} {g : Nat} (h : bt z b2 = true) (hB : BV w g (mid bt (b0, b1, b2) (x, y, z) 2)) : BV (w.setCell ⟨g, 2, none⟩ (.int .i64 z)) g (mid bt (b0, b1, b2) (x, y, z) 3) := by
  have h1 := Blk.set_ hB 2 (.int .i64 z)
  have e := bet_yes h
  unfold BV
  simp only [mid, e] at h1 ⊢
  exact h1
theorem mid_no2 {bt : Int → Int → Bool} {b0 b1 b2 x y z : Int} {w : World} {g : Nat} (h : bt z b2 = false) (hB : BV w g (mid bt (b0, b1, b2) (x, y, z) 2)) : BV w g (mid bt (b0, b1, b2) (x, y, z) 3) := by
  have e := bet_no h
  unfold BV at hB ⊢
  simp only [mid, e] at hB ⊢
  exact hB

set_option maxHeartbeats 1000000 in
theorem pick_far (F : Nat) (bt : Int → Int → Bool) (hF : Enters F) (hc : Compares F bt) (b off len cap : Nat) (vs : List V3) (w : World) (hlen : 0 < len) (hcap : len ≤ cap) (hc1 : 1 < cap) (hbig : cap ≤ 9223372036854775807) (row : VRow w (some ⟨b, off, none⟩) len vs) :
    Calls Tryz.prog 305 #[.slice (some ⟨b, off, none⟩) len cap, .func (.func F) #[] #[]] w fun e w' => e = .returned (AGG (pk bt vs)) ∧ Below w.heap.size w w' := by
  have HL := Lib.hid row.1
  have HRow := Lib.hid row
  have HCmp := Lib.hid hc
  clear row hc
  unfold Enters at hF
  obtain ⟨b', off', x, y, z, he, hv, c0, c1, c2⟩ := (vrow_keep HRow.out (alloc_below _ (.cells #[.int .i64 0, .int .i64 0, .int .i64 0] 48))).at_ hlen
  obtain ⟨rfl, rfl⟩ : b' = b ∧ off' = off := by simp at he; exact ⟨he.1.symm, he.2.symm⟩
  have HV := Lib.hid hv
  clear hv he
  simp only [Nat.zero_mul, Nat.add_zero] at c0 c1 c2
  have hne : (len == 0) = false := by simp; omega
  have hne' : ((len : Int) == 0) = false := by simp; omega
  go_enter Tryz.func305, Tryz.ntmps305
  go_wp2
  go_loopw [20] (fun i wr => ∃ k : Nat, k ≤ len - 1 ∧ i = .int .i64 k ∧ BV wr (w.heap.size + 1) (pk bt (vs.take (k + 1))) ∧ BV wr w.heap.size zeroV ∧ Below w.heap.size w wr) (fun i _ => len - 1 - (intOf i).toNat)
  case atStart =>
    refine ⟨0, Nat.zero_le _, rfl, ?_, (Blk.new w _ _).alloc _, balloc (alloc_below _ _) _⟩
    rw [pk_one HV.out]
    exact blkAt (Blk.new (w.alloc _) _ _) (by simp)
  case round =>
    obtain ⟨k, hk, rfl, hr, hz, hb⟩ := hrel
    have HR := Lib.hid hr
    have HZ := Lib.hid hz
    have HB := Lib.hid hb
    clear hr hz hb c0 c1 c2
    by_cases hlt : k < len - 1
    · obtain ⟨b2, off2, x1, y1, z1, he, hv, c0, c1, c2⟩ := (vrow_keep HRow.out HB.out).at_ (show k + 1 < len by omega)
      obtain ⟨rfl, rfl⟩ : b2 = b' ∧ off2 = off' := by simp at he; exact ⟨he.1.symm, he.2.symm⟩
      have HV2 := Lib.hid hv
      clear hv he
      rw [show off2 + (k + 1) * 3 = off2 + 3 + k * 3 by omega] at c0 c1 c2
      obtain ⟨⟨p0, p1, p2⟩, hp⟩ : ∃ p, p = pk bt (vs.take (k + 1)) := ⟨_, rfl⟩
      rw [← hp] at HR
      have HP := Lib.hid hp
      clear hp
      go_wp2
      go_loopw [25] (fun i wi => ∃ q : Nat, q ≤ 3 ∧ i = .int .i64 q ∧ BV wi (w.heap.size + 1) (mid bt (p0, p1, p2) (x1, y1, z1) q) ∧ BV wi w.heap.size zeroV ∧ Below w.heap.size w wi) (fun i _ => 3 - (intOf i).toNat)
      case atStart => exact ⟨0, by omega, rfl, HR.out.alloc _, HZ.out.alloc _, balloc HB.out _⟩
      case round =>
        obtain ⟨q, hq, rfl, hr, hz, hb⟩ := hrel
        have HR2 := Lib.hid hr
        have HZ2 := Lib.hid hz
        have HB2 := Lib.hid hb
        clear hr hz hb
        obtain rfl | rfl | rfl | rfl : q = 0 ∨ q = 1 ∨ q = 2 ∨ q = 3 := by omega
        · obtain ⟨d0, d1, d2, f0, f1, f2⟩ := blk3 (x := .int .i64 p0) (y := .int .i64 p1) (z := .int .i64 p2) HR2.out
          have hi := idx0 x1 y1 z1
          by_cases hcm : bt x1 p0 = true
          · go_wp2_with fail
            refine (HCmp.out _ _ _).mono ?_
            rintro e w' ⟨rfl, rfl⟩
            go_wp2
            go_roundw
            case rel => exact ⟨1, by omega, rfl, mid_yes0 hcm HR2.out, HZ2.out.far (by simp) _, HB2.out.setCell (by simp) _⟩
            case measure => simp [intOf]
          · have hcm' : bt x1 p0 = false := by simpa using hcm
            clear hcm
            go_wp2_with fail
            refine (HCmp.out _ _ _).mono ?_
            rintro e w' ⟨rfl, rfl⟩
            go_wp2
            go_roundw
            case rel => exact ⟨1, by omega, rfl, mid_no0 hcm' HR2.out, HZ2.out, HB2.out⟩
            case measure => simp [intOf]
        · obtain ⟨d0, d1, d2, f0, f1, f2⟩ := blk3 (x := .int .i64 (bet bt p0 x1)) (y := .int .i64 p1) (z := .int .i64 p2) HR2.out
          have hi := idx1 x1 y1 z1
          by_cases hcm : bt y1 p1 = true
          · go_wp2_with fail
            refine (HCmp.out _ _ _).mono ?_
            rintro e w' ⟨rfl, rfl⟩
            go_wp2
            go_roundw
            case rel => exact ⟨2, by omega, rfl, mid_yes1 hcm HR2.out, HZ2.out.far (by simp) _, HB2.out.setCell (by simp) _⟩
            case measure => simp [intOf]
          · have hcm' : bt y1 p1 = false := by simpa using hcm
            clear hcm
            go_wp2_with fail
            refine (HCmp.out _ _ _).mono ?_
            rintro e w' ⟨rfl, rfl⟩
            go_wp2
            go_roundw
            case rel => exact ⟨2, by omega, rfl, mid_no1 hcm' HR2.out, HZ2.out, HB2.out⟩
            case measure => simp [intOf]
        · obtain ⟨d0, d1, d2, f0, f1, f2⟩ := blk3 (x := .int .i64 (bet bt p0 x1)) (y := .int .i64 (bet bt p1 y1)) (z := .int .i64 p2) HR2.out
          have hi := idx2 x1 y1 z1
          by_cases hcm : bt z1 p2 = true
          · go_wp2_with fail
            refine (HCmp.out _ _ _).mono ?_
            rintro e w' ⟨rfl, rfl⟩
            go_wp2
            go_roundw
            case rel => exact ⟨3, by omega, rfl, mid_yes2 hcm HR2.out, HZ2.out.far (by simp) _, HB2.out.setCell (by simp) _⟩
            case measure => simp [intOf]
          · have hcm' : bt z1 p2 = false := by simpa using hcm
            clear hcm
            go_wp2_with fail
            refine (HCmp.out _ _ _).mono ?_
            rintro e w' ⟨rfl, rfl⟩
            go_wp2
            go_roundw
            case rel => exact ⟨3, by omega, rfl, mid_no2 hcm' HR2.out, HZ2.out, HB2.out⟩
            case measure => simp [intOf]
        · go_wp2
          go_roundw
          case rel => exact ⟨k + 1, by omega, by go_num, by rw [pk_succ HV2.out, ← HP.out]; exact HR2.out, HZ2.out, HB2.out⟩
          case measure => simp [intOf]; omega
    · obtain ⟨⟨p0, p1, p2⟩, hp⟩ : ∃ p, p = pk bt (vs.take (k + 1)) := ⟨_, rfl⟩
      rw [← hp] at HR
      rw [pk_all (by rw [HL.out]; omega)] at hp
      have HP := Lib.hid hp
      clear hp
      obtain ⟨d0, d1, d2, f0, f1, f2⟩ := blk3 (x := .int .i64 p0) (y := .int .i64 p1) (z := .int .i64 p2) HR.out
      obtain ⟨z0, z1, z2, g0, g1, g2⟩ := blk3 (x := .int .i64 0) (y := .int .i64 0) (z := .int .i64 0) HZ.out
      go_wp2
      exact bodyPost_ret (v := .agg #[.int .i64 p0, .int .i64 p1, .int .i64 p2]) (by simp [results, Tryz.results305, go_sem, z0, z1, z2]) rfl ⟨by rw [← HP.out]; rfl, bset3 HB.out (by omega)⟩

set_option maxHeartbeats 400000 in
theorem pick_near (F : Nat) (bt : Int → Int → Bool) (b off : Nat) (vs : List V3) (w : World) (row : VRow w (some ⟨b, off, none⟩) 1 vs) :
    Calls Tryz.prog 305 #[.slice (some ⟨b, off, none⟩) 1 1, .func (.func F) #[] #[]] w fun e w' => e = .returned (AGG (pk bt vs)) ∧ Below w.heap.size w w' := by
  have HL := Lib.hid row.1
  obtain ⟨b', off', x, y, z, he, hv, c0, c1, c2⟩ := (vrow_keep row (alloc_below _ (.cells #[.int .i64 0, .int .i64 0, .int .i64 0] 48))).at_ (show 0 < 1 by omega)
  obtain ⟨rfl, rfl⟩ : b' = b ∧ off' = off := by simp at he; exact ⟨he.1.symm, he.2.symm⟩
  have hp : pk bt vs = (x, y, z) := by rw [← pk_all (k := 1) (by rw [HL.out]; omega), pk_one hv]
  have HP := Lib.hid hp
  clear hv he row hp
  simp only [Nat.zero_mul, Nat.add_zero] at c0 c1 c2
  go_enter Tryz.func305, Tryz.ntmps305
  go_wp2
  refine wp_loop_rounds 1 ?_
  rw [rounds_succ]
  go_wp2
  exact bodyPost_ret (v := .agg #[.int .i64 x, .int .i64 y, .int .i64 z]) (by simp [results, Tryz.results305, go_sem]) rfl ⟨by rw [HP.out]; rfl, by first | exact balloc (alloc_below _ _) _ | exact bset3 (balloc (alloc_below _ _) _) (by omega)⟩

theorem pick_any (F : Nat) (bt : Int → Int → Bool) (hF : Enters F) (hc : Compares F bt) (a : Option Addr) (len cap : Nat) (vs : List V3) (w : World) (hcap : len ≤ cap) (hbig : cap ≤ 9223372036854775807) (row : VRow w a len vs) :
    Calls Tryz.prog 305 #[.slice a len cap, .func (.func F) #[] #[]] w fun e w' => e = .returned (AGG (pk bt vs)) ∧ Below w.heap.size w w' := by
  by_cases h0 : len = 0
  · subst h0
    obtain rfl := List.eq_nil_of_length_eq_zero row.1
    exact pick_empty F a cap w
  · obtain ⟨b, off, rfl, _⟩ : ∃ b off, a = some ⟨b, off, none⟩ ∧ True := by
      rcases row.2.2 with h | ⟨b, off, h, _⟩
      · exact absurd h h0
      · exact ⟨b, off, h, trivial⟩
    by_cases h1 : cap = 1
    · subst h1
      obtain rfl : len = 1 := by omega
      exact pick_near F bt b off vs w row
    · exact pick_far F bt hF hc b off len cap vs w (by omega) hcap (by omega) hbig row

set_option maxHeartbeats 400000 in
theorem least_any (a : Option Addr) (len cap : Nat) (vs : List V3) (w : World) (hcap : len ≤ cap) (hbig : cap ≤ 9223372036854775807) (row : VRow w a len vs) :
    Calls Tryz.prog 278 #[.slice a len cap] w fun e w' => e = .returned (AGG (pk lessB vs)) ∧ Below w.heap.size w w' := by
  have HRow := Lib.hid row
  clear row
  obtain ⟨⟨p0, p1, p2⟩, hp⟩ : ∃ p, p = pk lessB vs := ⟨_, rfl⟩
  have HP := Lib.hid hp
  clear hp
  go_enter Tryz.func278, Tryz.ntmps278
  go_wp2_with fail
  refine (pick_any _ lessB enters_less less_any _ _ _ vs _ hcap hbig (vrow_keep HRow.out (alloc_below _ _))).mono ?_
  rw [← HP.out]
  unfold AGG
  rintro e w1 ⟨rfl, b1⟩
  have k1 := Lib.hid ((Blk.new w 48 _).keep b1)
  have B1 := Lib.hid (bthen (alloc_below _ _) b1)
  clear b1
  obtain ⟨c10, c11, c12, f10, f11, f12⟩ := blk3 k1.out
  go_wp2
  exact bodyPost_ret (v := .agg #[.int .i64 p0, .int .i64 p1, .int .i64 p2]) (by simp [results, Tryz.results278, go_sem, c10, c11, c12]) rfl ⟨by rw [← HP.out]; rfl, bset3 B1.out (by omega)⟩

set_option maxHeartbeats 400000 in
theorem greatest_any (a : Option Addr) (len cap : Nat) (vs : List V3) (w : World) (hcap : len ≤ cap) (hbig : cap ≤ 9223372036854775807) (row : VRow w a len vs) :
    Calls Tryz.prog 292 #[.slice a len cap] w fun e w' => e = .returned (AGG (pk moreB vs)) ∧ Below w.heap.size w w' := by
  have HRow := Lib.hid row
  clear row
  obtain ⟨⟨p0, p1, p2⟩, hp⟩ : ∃ p, p = pk moreB vs := ⟨_, rfl⟩
  have HP := Lib.hid hp
  clear hp
  go_enter Tryz.func292, Tryz.ntmps292
  go_wp2_with fail
  refine (pick_any _ moreB enters_more more_any _ _ _ vs _ hcap hbig (vrow_keep HRow.out (alloc_below _ _))).mono ?_
  rw [← HP.out]
  unfold AGG
  rintro e w1 ⟨rfl, b1⟩
  have k1 := Lib.hid ((Blk.new w 48 _).keep b1)
  have B1 := Lib.hid (bthen (alloc_below _ _) b1)
  clear b1
  obtain ⟨c10, c11, c12, f10, f11, f12⟩ := blk3 k1.out
  go_wp2
  exact bodyPost_ret (v := .agg #[.int .i64 p0, .int .i64 p1, .int .i64 p2]) (by simp [results, Tryz.results292, go_sem, c10, c11, c12]) rfl ⟨by rw [← HP.out]; rfl, bset3 B1.out (by omega)⟩

theorem eqVec (a b c d e f : Int) (w : World) : (Op.equalIn 10000 48 (.agg #[.int .i64 a, .int .i64 b, .int .i64 c]) (.agg #[.int .i64 d, .int .i64 e, .int .i64 f])).run Tryz.prog w = .ok (a == d && b == e && c == f) w := by
  have u3 := Tryz.underlying44
  have a3 := Tryz.isAgg44
  have z3 := Tryz.sizeOf44
  rw [show (10000 : Nat) = 9999 + 1 from rfl, Op.equalIn]
  simp only [Sem.run_bind, run_underlying Tryz.underlying48, Result.andThen_ok]
  simp only [Std.Legacy.Range.forIn_eq_forIn_range', Std.Legacy.Range.size, Nat.sub_zero, Nat.add_sub_cancel, Nat.div_one, List.range'_succ, List.range'_zero, List.forIn_cons, List.forIn_nil]
  go_simp
  by_cases h1 : a = d <;> by_cases h2 : b = e <;> by_cases h3 : c = f <;> simp [h1, h2, h3]

def av : List V3 := [(65536, -131072, 196608), (65536, -131072, 196608), (5, 0, 0)]
theorem first3_at {e : Nat → Int} {k : Nat} (hk : k < 3) (h : ∀ j, j < k → e j = 0) (he : e k ≠ 0) : first3 (e 0) (e 1) (e 2) = e k := by
  unfold first3
  obtain rfl | rfl | rfl : k = 0 ∨ k = 1 ∨ k = 2 := by omega
  · rw [if_neg he]
  · rw [if_pos (h 0 (by omega)), if_neg he]
  · rw [if_pos (h 0 (by omega)), if_pos (h 1 (by omega))]
theorem first3_none {e : Nat → Int} (h : ∀ j, j < 3 → e j = 0) : first3 (e 0) (e 1) (e 2) = 0 := by
  unfold first3
  rw [if_pos (h 0 (by omega)), if_pos (h 1 (by omega)), h 2 (by omega)]

end Go.Proofs.YthhfcedhbfandaaGreat
