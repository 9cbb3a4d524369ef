/-
  6 texts in one file, each with its own heading.
-/
import Derived.Test.YthhfcedhbfandaaGreatMS04
import Derived.Deep.QuietTactic
import Derived.Maps.AppendAt
import Derived.Deep.RegionHeld3
import Derived.Maps.Own
import Derived.Test.YthhfcedhbfandaaGreatMS03
/-
  Sets of kinds, bit by bit: plain arithmetic; parts as those that a set picks; With and Without, bit by bit.
-/
namespace Go.Proofs.YthhfcedhbfandaaGreat
open Go.RowKit

theorem or_tab : (List.range 32).all (fun s => (List.range 5).all fun k => decide (bits .or .i64 (s : Int) ((2 : Int) ^ k) = addK s k)) = true := by kernel_rfl
theorem and_tab : (List.range 32).all (fun s => (List.range 32).all fun a => decide ((bits .and .i64 (s : Int) (a : Int) == (a : Int)) = (List.range 5).all fun j => !hasN a j || hasN s j)) = true := by kernel_rfl
theorem one_tab : (List.range 32).all (fun s => (List.range 5).all fun k => decide ((bits .and .i64 (s : Int) ((2 : Int) ^ k) != 0) = hasN s k)) = true := by kernel_rfl
theorem not_tab : (List.range 32).all (fun s => (List.range 32).all fun a => decide (0 ≤ bits .andNot .i64 (s : Int) (a : Int) ∧ bits .andNot .i64 (s : Int) (a : Int) ≤ 31) && (List.range 5).all fun j => decide (hasN (bits .andNot .i64 (s : Int) (a : Int)) j = (hasN s j && !hasN a j))) = true := by kernel_rfl
theorem add_tab : (List.range 32).all (fun s => (List.range 5).all fun k => (List.range 5).all fun j => decide (hasN (addK (s : Int) (k : Int)) j = (hasN s j || (k == j)))) = true := by kernel_rfl
theorem sub_tab : (List.range 32).all (fun s => (List.range 5).all fun k => (List.range 5).all fun j => decide (hasN (subK (s : Int) (k : Int)) j = (hasN s j && !(k == j)))) = true := by kernel_rfl
theorem ext_tab : (List.range 32).all (fun s => (List.range 32).all fun t => !((List.range 5).all fun j => hasN (s : Int) j == hasN (t : Int) j) || s == t) = true := by kernel_rfl
theorem tab {n : Nat} {f : Nat → Bool} (h : (List.range n).all f = true) {k : Nat} (hk : k < n) : f k = true := List.all_eq_true.1 h k (List.mem_range.2 hk)

theorem nat_of {s : Int} (h : 0 ≤ s ∧ s ≤ 31) : ∃ n : Nat, s = (n : Int) ∧ n < 32 := ⟨s.toNat, by omega, by omega⟩
theorem kind_of {k : Int} (h : kOk k = true) : ∃ n : Nat, k = (n : Int) ∧ n < 5 := ⟨k.toNat, by rcases kOk_cases h with rfl | rfl | rfl | rfl | rfl <;> rfl, by rcases kOk_cases h with rfl | rfl | rfl | rfl | rfl <;> decide⟩
theorem or_addK {s k : Int} (hs : 0 ≤ s ∧ s ≤ 31) (hk : kOk k = true) : bits .or .i64 s (2 ^ k.toNat) = addK s k := by
  obtain ⟨n, rfl, hn⟩ := nat_of hs
  obtain ⟨m, rfl, hm⟩ := kind_of hk
  exact of_decide_eq_true (tab (tab or_tab hn) hm)
theorem add_has {s k : Int} (hs : 0 ≤ s ∧ s ≤ 31) (hk : kOk k = true) {j : Nat} (hj : j < 5) : hasN (addK s k) j = (hasN s j || (k == (j : Int))) := by
  obtain ⟨n, rfl, hn⟩ := nat_of hs
  obtain ⟨m, rfl, hm⟩ := kind_of hk
  have := of_decide_eq_true (tab (tab (tab add_tab hn) hm) hj)
  rw [this]
  congr 1
  rw [Bool.eq_iff_iff]; simp; omega
theorem sub_has {s k : Int} (hs : 0 ≤ s ∧ s ≤ 31) (hk : kOk k = true) {j : Nat} (hj : j < 5) : hasN (subK s k) j = (hasN s j && !(k == (j : Int))) := by
  obtain ⟨n, rfl, hn⟩ := nat_of hs
  obtain ⟨m, rfl, hm⟩ := kind_of hk
  have := of_decide_eq_true (tab (tab (tab sub_tab hn) hm) hj)
  rw [this]
  congr 2
  rw [Bool.eq_iff_iff]; simp; omega
theorem not_has {s a : Int} (hs : 0 ≤ s ∧ s ≤ 31) (ha : 0 ≤ a ∧ a ≤ 31) {j : Nat} (hj : j < 5) : hasN (bits .andNot .i64 s a) j = (hasN s j && !hasN a j) := by
  obtain ⟨n, rfl, hn⟩ := nat_of hs
  obtain ⟨m, rfl, hm⟩ := nat_of ha
  have := tab (tab not_tab hn) hm
  rw [Bool.and_eq_true] at this
  exact of_decide_eq_true (tab this.2 hj)
theorem not_bound {s a : Int} (hs : 0 ≤ s ∧ s ≤ 31) (ha : 0 ≤ a ∧ a ≤ 31) : 0 ≤ bits .andNot .i64 s a ∧ bits .andNot .i64 s a ≤ 31 := by
  obtain ⟨n, rfl, hn⟩ := nat_of hs
  obtain ⟨m, rfl, hm⟩ := nat_of ha
  have := tab (tab not_tab hn) hm
  rw [Bool.and_eq_true] at this
  exact of_decide_eq_true this.1
theorem set_ext {s t : Int} (hs : 0 ≤ s ∧ s ≤ 31) (ht : 0 ≤ t ∧ t ≤ 31) (h : ∀ j, j < 5 → hasN s j = hasN t j) : s = t := by
  obtain ⟨n, rfl, hn⟩ := nat_of hs
  obtain ⟨m, rfl, hm⟩ := nat_of ht
  have := tab (tab ext_tab hn) hm
  rw [show ((List.range 5).all fun j => hasN (n : Int) j == hasN (m : Int) j) = true from List.all_eq_true.2 (fun j hj => by simpa using h j (List.mem_range.1 hj))] at this
  have : n = m := by simpa using this
  rw [this]
theorem has_mod (s : Int) {j : Nat} (hj : j < 5) : hasN (s % 32) j = hasN s j := by
  unfold hasN
  congr 1
  obtain rfl | rfl | rfl | rfl | rfl : j = 0 ∨ j = 1 ∨ j = 2 ∨ j = 3 ∨ j = 4 := by omega
  · show (s % 32 / 1 % 2 = 1) = (s / 1 % 2 = 1); rw [eq_iff_iff]; omega
  · show (s % 32 / 2 % 2 = 1) = (s / 2 % 2 = 1); rw [eq_iff_iff]; omega
  · show (s % 32 / 4 % 2 = 1) = (s / 4 % 2 = 1); rw [eq_iff_iff]; omega
  · show (s % 32 / 8 % 2 = 1) = (s / 8 % 2 = 1); rw [eq_iff_iff]; omega
  · show (s % 32 / 16 % 2 = 1) = (s / 16 % 2 = 1); rw [eq_iff_iff]; omega
theorem and_mod (s : Int) {a : Int} (ha : 0 ≤ a ∧ a ≤ 31) : bits .and .i64 s a = bits .and .i64 (s % 32) a := by
  obtain ⟨m, rfl, hm⟩ := nat_of ha
  have h2 : (BitVec.ofInt 64 (m : Int)).toNat = m := by
    rw [BitVec.ofInt_natCast, BitVec.toNat_ofNat]; exact Nat.mod_eq_of_lt (by omega)
  show IntKind.i64.wrap ((BitVec.ofInt 64 s &&& BitVec.ofInt 64 (m : Int)).toNat : Int) = IntKind.i64.wrap ((BitVec.ofInt 64 (s % 32) &&& BitVec.ofInt 64 (m : Int)).toNat : Int)
  rw [BitVec.toNat_and, BitVec.toNat_and, h2, ofInt_nat, ofInt_nat]
  have hk : ∀ x : Nat, x &&& m = (x % 32) &&& m := fun x => by
    have e : 31 &&& m = m := by rw [Nat.and_comm, show (31 : Nat) = 2 ^ 5 - 1 by decide, Nat.and_two_pow_sub_one_eq_mod]; exact Nat.mod_eq_of_lt hm
    have e2 : x % 32 = x &&& 31 := by rw [show (31 : Nat) = 2 ^ 5 - 1 by decide, Nat.and_two_pow_sub_one_eq_mod]
    rw [e2, Nat.and_assoc, e]
  rw [hk]
  congr 3
  omega
theorem and_one (s : Int) {k : Int} (hk : kOk k = true) : (bits .and .i64 s (2 ^ k.toNat) != 0) = hasB s k := by
  obtain ⟨m, rfl, hm⟩ := kind_of hk
  rw [has_yes (by omega), Int.toNat_natCast]
  have hb : (0 : Int) ≤ 2 ^ m ∧ (2 : Int) ^ m ≤ 31 := by
    obtain rfl | rfl | rfl | rfl | rfl : m = 0 ∨ m = 1 ∨ m = 2 ∨ m = 3 ∨ m = 4 := by omega
    all_goals decide
  rw [and_mod s hb, ← has_mod s hm]
  obtain ⟨n, e, hn⟩ := nat_of (s := s % 32) (by omega)
  rw [e]
  exact of_decide_eq_true (tab (tab one_tab hn) hm)

theorem fold_add : ∀ (ks : List Int) (s : Int), 0 ≤ s ∧ s ≤ 31 → ksOk ks = true → ∀ {j : Nat}, j < 5 → hasN (ks.foldl addK s) j = (hasN s j || ks.any (· == (j : Int)))
  | [], s, _, _, j, _ => by simp
  | k :: r, s, hs, h, j, hj => by
    unfold ksOk at h
    rw [List.all_cons, Bool.and_eq_true] at h
    rw [List.foldl_cons, fold_add r _ (addK_bound hs h.1) h.2 hj, add_has hs h.1 hj, List.any_cons, Bool.or_assoc]
theorem sub_bound : ∀ (ks : List Int) (s : Int), 0 ≤ s ∧ s ≤ 31 → 0 ≤ ks.foldl subK s ∧ ks.foldl subK s ≤ 31
  | [], _, hs => hs
  | k :: r, s, hs => sub_bound r (subK s k) (subK_bound hs)
theorem fold_sub : ∀ (ks : List Int) (s : Int), 0 ≤ s ∧ s ≤ 31 → ksOk ks = true → ∀ {j : Nat}, j < 5 → hasN (ks.foldl subK s) j = (hasN s j && !ks.any (· == (j : Int)))
  | [], s, _, _, j, _ => by simp
  | k :: r, s, hs, h, j, hj => by
    unfold ksOk at h
    rw [List.all_cons, Bool.and_eq_true] at h
    rw [List.foldl_cons, fold_sub r _ (subK_bound hs) h.2 hj, sub_has hs h.1 hj, List.any_cons, Bool.not_or, Bool.and_assoc]
theorem has0 (j : Nat) : hasN 0 j = false := by unfold hasN; simp
theorem ksS_bound {ks : List Int} (h : ksOk ks = true) : 0 ≤ ksS ks ∧ ksS ks ≤ 31 := ks_bound ks 0 (by omega) h
theorem ksS_has {ks : List Int} (h : ksOk ks = true) {j : Nat} (hj : j < 5) : hasN (ksS ks) j = ks.any (· == (j : Int)) := by
  unfold ksS
  rw [fold_add ks 0 (by omega) h hj, has0, Bool.false_or]
theorem hasAll_and (s : Int) (ks : List Int) (h : ksOk ks = true) : (bits .and .i64 s (ksS ks) == ksS ks) = hasAll s ks := by
  have hb := ksS_bound h
  rw [and_mod s hb]
  obtain ⟨n, e, hn⟩ := nat_of (s := s % 32) (by omega)
  obtain ⟨m, e2, hm⟩ := nat_of hb
  have t := of_decide_eq_true (tab (tab and_tab hn) hm)
  rw [e, e2, t, Bool.eq_iff_iff, List.all_eq_true]
  unfold hasAll
  rw [List.all_eq_true]
  constructor
  · intro hall k hk
    have hok : kOk k = true := List.all_eq_true.1 h k hk
    obtain ⟨j, rfl, hj⟩ := kind_of hok
    have := hall j (List.mem_range.2 hj)
    rw [← e2, ksS_has h hj, show (ks.any (· == (j : Int))) = true from List.any_eq_true.2 ⟨_, hk, by simp⟩, ← e, has_mod s hj] at this
    rw [has_yes (by omega)]
    simpa using this
  · intro hall j hj
    have hj := List.mem_range.1 hj
    rw [← e2, ksS_has h hj, ← e, has_mod s hj]
    by_cases c : (ks.any (· == (j : Int))) = true
    · obtain ⟨k, hk, e3⟩ := List.any_eq_true.1 c
      have e3 : k = (j : Int) := by simpa using e3
      subst e3
      have := hall _ hk
      rw [has_yes (by omega)] at this
      rw [this]; simp
    · rw [Bool.eq_false_iff.2 c]; rfl
theorem hasAll_no {s : Int} {ks : List Int} (h : ksOk ks = false) : hasAll s ks = false := by
  unfold ksOk at h
  obtain ⟨k, hk, hn⟩ := List.all_eq_false.1 h
  unfold hasAll
  refine List.all_eq_false.2 ⟨k, hk, ?_⟩
  intro c
  exact hn (has_kOk c)

def kindsL (s : Int) : List Int := ([0, 1, 2, 3, 4] : List Int).filter (hasB s)
def kindsTo (s : Int) (j : Nat) : List Int := ((List.range j).map (fun k : Nat => (k : Int))).filter (hasB s)
theorem kindsTo_all (s : Int) : kindsTo s 5 = kindsL s := rfl
theorem kindsTo_yes {s : Int} {j : Nat} (h : hasB s (j : Int) = true) : kindsTo s (j + 1) = kindsTo s j ++ [(j : Int)] := by
  unfold kindsTo
  rw [List.range_succ, List.map_append, List.filter_append]
  simp [h]
theorem kindsTo_no {s : Int} {j : Nat} (h : hasB s (j : Int) = false) : kindsTo s (j + 1) = kindsTo s j := by
  unfold kindsTo
  rw [List.range_succ, List.map_append, List.filter_append]
  simp [h]
theorem kindsTo_len (s : Int) (j : Nat) : (kindsTo s j).length ≤ j := by
  unfold kindsTo
  refine Nat.le_trans (List.length_filter_le _ _) ?_
  simp
theorem kindsL_ok (s : Int) : ksOk (kindsL s) = true := by
  unfold ksOk
  refine List.all_eq_true.2 (fun k hk => ?_)
  unfold kindsL at hk
  exact has_kOk (List.mem_filter.1 hk).2
def pickT (s : Int) (P : PT) : PT := (s % 32, (if hasN s 0 then P.2.1 else zI), (if hasN s 1 then P.2.2.1 else 0), (if hasN s 1 then P.2.2.2.1 else zI), (if hasN s 2 then P.2.2.2.2.1 else 0), (if hasN s 2 then P.2.2.2.2.2.1 else 0), (if hasN s 2 then P.2.2.2.2.2.2.1 else false), (if hasN s 3 then P.2.2.2.2.2.2.2 else 0))
theorem with_pick (s : Int) (P : PT) : withT zT P (kindsL s) = pickT s P := by
  have h0 : hasB s 0 = hasN s 0 := has_yes (k := 0) (by omega)
  have h1 : hasB s 1 = hasN s 1 := has_yes (k := 1) (by omega)
  have h2 : hasB s 2 = hasN s 2 := has_yes (k := 2) (by omega)
  have h3 : hasB s 3 = hasN s 3 := has_yes (k := 3) (by omega)
  have h4 : hasB s 4 = hasN s 4 := has_yes (k := 4) (by omega)
  have hs : s % 32 = (if hasN s 0 then 1 else 0) + (if hasN s 1 then 2 else 0) + (if hasN s 2 then 4 else 0) + (if hasN s 3 then 8 else 0) + (if hasN s 4 then 16 else 0) := by
    have e0 : hasN s 0 = decide (s % 2 = 1) := by unfold hasN; simp
    have e1 : hasN s 1 = decide (s / 2 % 2 = 1) := by unfold hasN; simp
    have e2 : hasN s 2 = decide (s / 4 % 2 = 1) := by unfold hasN; simp
    have e3 : hasN s 3 = decide (s / 8 % 2 = 1) := by unfold hasN; simp
    have e4 : hasN s 4 = decide (s / 16 % 2 = 1) := by unfold hasN; simp
    rw [e0, e1, e2, e3, e4]
    simp only [decide_eq_true_eq]
    omega
  unfold pickT
  rw [hs]
  unfold kindsL
  simp only [List.filter_cons, List.filter_nil, h0, h1, h2, h3, h4]
  clear h0 h1 h2 h3 h4 hs
  generalize hasN s 0 = a0
  generalize hasN s 1 = a1
  generalize hasN s 2 = a2
  generalize hasN s 3 = a3
  generalize hasN s 4 = a4
  cases a0 <;> cases a1 <;> cases a2 <;> cases a3 <;> cases a4 <;> rfl

def eqT (P Q : PT) : Bool := eqP P.1 P.2.1 P.2.2.1 P.2.2.2.1 P.2.2.2.2.1 P.2.2.2.2.2.1 P.2.2.2.2.2.2.1 P.2.2.2.2.2.2.2 Q.1 Q.2.1 Q.2.2.1 Q.2.2.2.1 Q.2.2.2.2.1 Q.2.2.2.2.2.1 Q.2.2.2.2.2.2.1 Q.2.2.2.2.2.2.2
def bareB (P : PT) : Bool := eqT (pickT P.1 P) P
def valB (P : PT) : Bool := restB P.2.1 P.2.2.1 P.2.2.2.1 P.2.2.2.2.1 P.2.2.2.2.2.1 P.2.2.2.2.2.2.2
theorem bare_kinds (P : PT) : bareB P = (decide (0 ≤ P.1) && decide (P.1 ≤ 31) && kindsB P.1 P.2.1 P.2.2.1 P.2.2.2.1 P.2.2.2.2.1 P.2.2.2.2.2.1 P.2.2.2.2.2.2.1 P.2.2.2.2.2.2.2) := by
  obtain ⟨h, M, m, B, p, a, c, l⟩ := P
  unfold bareB eqT pickT eqP kindsB kindB zkB
  simp only []
  have e : (h % 32 == h) = (decide (0 ≤ h) && decide (h ≤ 31)) := by
    rw [Bool.eq_iff_iff]; simp; omega
  rw [e]
  have m12 := eq12_self M
  have b6 := eq6_self B
  cases hasN h 0 <;> cases hasN h 1 <;> cases hasN h 2 <;> cases hasN h 3 <;> simp [m12, b6, Bool.and_assoc]
theorem right_split (P : PT) : rightT P = (valB P && bareB P) := by
  rw [bare_kinds, Bool.and_comm]
  rfl
set_option maxHeartbeats 400000 in
set_option maxRecDepth 100000 in
theorem pbit_any {k : Int} (hk : kOk k = true) (w : World) :
    Calls Tryz.prog 275 #[.int .i64 k] w fun e w' => e = .returned (.int .i64 (2 ^ k.toNat)) ∧ w = w' := by
  rcases kOk_cases hk with rfl | rfl | rfl | rfl | rfl
  all_goals
    clear hk
    go_enter Tryz.func275, Tryz.ntmps275
    go_wp2
    go_ret
    exact ⟨rfl, rfl⟩

set_option maxHeartbeats 400000 in
set_option maxRecDepth 100000 in
theorem pin_b (n m : Int) (w : World) :
    Calls Tryz.prog 237 #[.int .i64 n, .int .i64 m] w fun e w' => e = .returned (.bool (inB n m)) ∧ w = w' := by
  unfold inB
  by_cases h1 : 0 ≤ n
  · have g1 : decide (0 ≤ n) = true := by simpa using h1
    go_enter Tryz.func237, Tryz.ntmps237
    go_wp2
    go_ret
    exact ⟨by rw [g1]; rfl, rfl⟩
  · have g1 : decide (0 ≤ n) = false := by simpa using h1
    go_enter Tryz.func237, Tryz.ntmps237
    go_wp2
    go_ret
    exact ⟨rfl, rfl⟩
theorem pin_bb {n m : Int} {b : Bool} (h : inB n m = b) (w : World) :
    Calls Tryz.prog 237 #[.int .i64 n, .int .i64 m] w fun e w' => e = .returned (.bool b) ∧ w = w' := (pin_b n m w).mono fun _ _ ⟨he, hw⟩ => ⟨by rw [he, h], hw⟩

set_option maxHeartbeats 1000000 in
set_option maxRecDepth 100000 in
theorem pof_any (a : Option Addr) (len cap : Nat) (ks : List Int) (w : World) (row : Row w a len ks) :
    Calls Tryz.prog 233 #[.slice a len cap] w fun e w' => e = .returned (.tuple #[.int .i64 (ksV ks), .int .i64 (ksE ks)]) ∧ w = w' := by
  have HL := Lib.hid row.1
  have hbig := row.2.1
  have HRow := Lib.hid row
  clear row
  go_enter Tryz.func233, Tryz.ntmps233
  go_wp2
  go_loopw [4, 9] (fun v i wr => ∃ j : Nat, j ≤ len ∧ i = .int .i64 j ∧ v = .int .i64 (ksS (ks.take j)) ∧ ksOk (ks.take j) = true ∧ wr = w) (fun _ i _ => len - (intOf i).toNat)
  case atStart => exact ⟨0, by omega, rfl, rfl, rfl, rfl⟩
  case round =>
    obtain ⟨j, hj, rfl, rfl, hz, rfl⟩ := hrel
    have HZ := Lib.hid hz
    have hsb := ks_bound (ks.take j) 0 (by omega) hz
    clear hz
    by_cases hlt : j < len
    · obtain ⟨b, off, k, rfl, hv, c0⟩ := row_at6 HRow.out hlt
      have HV := Lib.hid hv
      have HSucc := Lib.hid (ks_succ hv)
      clear hv
      have hj0 : (0 : Int) ≤ (j : Int) := by omega
      have hj1 : (j : Int) < (len : Int) := by omega
      obtain ⟨s, hs⟩ : ∃ s, s = ksS (ks.take j) := ⟨_, rfl⟩
      rw [show (ks.take j).foldl addK 0 = s from hs.symm] at hsb
      rw [← hs] at HSucc
      rw [← hs]
      clear hs
      by_cases h : k < 0
      · have hno := ksOk_bad HV.out (by unfold kOk; simp; omega)
        have HNo := Lib.hid hno
        clear hno
        go_wp2
        go_ret2
        exact ⟨by unfold ksV ksE; rw [HNo.out]; rfl, rfl⟩
      · by_cases h5 : 5 ≤ k
        · have hno := ksOk_bad HV.out (by unfold kOk; simp; omega)
          have HNo := Lib.hid hno
          clear hno
          go_wp2
          go_ret2
          exact ⟨by unfold ksV ksE; rw [HNo.out]; rfl, rfl⟩
        · have hk : kOk k = true := by unfold kOk; simp; omega
          have HOk := Lib.hid (ksOk_succ HV.out HZ.out hk)
          have HK := Lib.hid hk
          have HO := Lib.hid (or_addK hsb hk)
          clear hk hsb
          go_wp2_with fail
          refine (pbit_any HK.out _).mono ?_
          rintro e w1 ⟨rfl, rfl⟩
          obtain ⟨t, ht⟩ : ∃ t, t = (2 : Int) ^ k.toNat := ⟨_, rfl⟩
          rw [← ht] at HO
          rw [← ht]
          clear ht
          go_wp2
          go_roundw
          case rel => exact ⟨j + 1, by omega, by go_num, by rw [HSucc.out, ← HO.out], HOk.out, by trivial⟩
          case measure => simp [intOf] <;> omega
    · obtain rfl : j = len := by omega
      have et : ks.take j = ks := List.take_of_length_le (by rw [HL.out]; exact Nat.le_refl _)
      rw [et] at HZ
      rw [et]
      clear et hsb
      go_wp2
      go_ret2
      exact ⟨by unfold ksV ksE; rw [HZ.out]; rfl, rfl⟩

theorem kind_info : (Tryz.prog.info? 244).map (fun i => (i.zero, i.size, i.bytes)) = some (some (.int .i64 0), 1, 8) := by kernel_rfl
def OwnK (w : World) (base : Nat) (v : Value) (n : Nat) (zs : List Int) : Prop := w.ownsRow base 244 1 v n (zs.map (Value.int .i64))
theorem OwnK.nil (w : World) (base : Nat) : OwnK w base (.slice none 0 0) 0 [] := World.ownsRow_nil _ _ _ _
theorem OwnK.row {w : World} {base : Nat} {v : Value} {n : Nat} {zs : List Int} (h : OwnK w base v n zs) : ∃ a cap, v = .slice a n cap ∧ Row w a n zs := by
  have hl : zs.length = n := by simpa using h.1
  rcases h.2 with ⟨rfl, rfl⟩ | ⟨g, cap, cur, rfl, hb, hh, hnc, hm, hs, ht⟩
  · exact ⟨none, 0, rfl, hl, by omega, Or.inl rfl⟩
  · unfold maxLen at hm
    refine ⟨_, cap, rfl, hl, by omega, Or.inr ⟨g, 0, rfl, fun i hi => ?_⟩⟩
    rw [Nat.zero_add]
    have hi' : i < (zs.map (Value.int .i64)).length := by rw [List.length_map]; omega
    have hc := World.ownsRow.cellAt (j := i) h (by omega)
    rw [hc]
    simp [List.getD, List.getElem?_eq_getElem (show i < zs.length by omega)]
theorem grownK_below {w0 wr w' : World} {base B : Nat} {v : Value} {n : Nat} {zs : List Int} {o : Obj} (ho : OwnK wr base v n zs) (hB : B ≤ base) (hb : Below B w0 wr) (hs : B ≤ wr.heap.size) (hg : (wr.alloc o).grownBy w' v.ownBlock) : Below B w0 w' :=
  (hb.alloc hs o).grown hg (by simp; omega) (fun k hk => by have := World.ownsRow.lt ho k hk; omega)

set_option maxHeartbeats 1000000 in
set_option maxRecDepth 100000 in
theorem pkinds_any (s : Int) (w : World) :
    Calls Tryz.prog 276 #[.int .i64 s] w fun e w' => ∃ a cap, e = .returned (.slice a (kindsL s).length cap) ∧ Row w' a (kindsL s).length (kindsL s) ∧ Below w.heap.size w w' := by
  obtain ⟨i0, hi0, hz0, hz1, hz2⟩ := info_parts kind_info
  have HI := Lib.hid (And.intro hi0 (And.intro hz0 (And.intro hz1 hz2)))
  clear hi0 hz0 hz1 hz2
  go_enter Tryz.func276, Tryz.ntmps276
  go_wp2
  go_loopw [3, 5] (fun v i wr => ∃ k : Nat, k ≤ 5 ∧ i = .int .i64 k ∧ OwnK wr w.heap.size v (kindsTo s k).length (kindsTo s k) ∧ Below w.heap.size w wr) (fun _ i _ => 5 - (intOf i).toNat)
  case atStart => exact ⟨0, by omega, rfl, OwnK.nil _ _, Below.refl _ _⟩
  case round =>
    obtain ⟨k, hk, rfl, hown, hb⟩ := hrel
    have HOwn := Lib.hid hown
    have HB := Lib.hid hb
    clear hown hb
    by_cases hlt : k < 5
    · have hk0 : (0 : Int) ≤ (k : Int) := by omega
      have hk1 : (k : Int) < 5 := by omega
      have HK : Hid (kOk (k : Int) = true) := Lib.hid (by unfold kOk; simp; omega)
      have hle := kindsTo_len s k
      have ha := and_one s HK.out
      by_cases hL : hasB s (k : Int) = true
      · rw [hL] at ha
        have HA := Lib.hid (kindsTo_yes hL)
        clear hL
        obtain ⟨n, hn⟩ : ∃ n, n = (kindsTo s k).length := ⟨_, rfl⟩
        rw [← hn] at HOwn hle
        have HN := Lib.hid hn
        clear hn
        have hsz : w.heap.size ≤ wr.heap.size := HB.out.size
        go_wp2_with fail
        refine (pbit_any HK.out _).mono ?_
        rintro e w1 ⟨rfl, rfl⟩
        obtain ⟨t, ht⟩ : ∃ t, t = (2 : Int) ^ (k : Int).toNat := ⟨_, rfl⟩
        rw [← ht] at ha
        rw [← ht]
        clear ht
        go_wp2_with (at_builtin; refine wpList_append_own _ rfl (.tmp 13) (.tmp 15) 53 rfl w.heap.size 244 i0 (.int .i64 0) 1 8 Tryz.underlying53 HI.out.1 HI.out.2.1 HI.out.2.2.1 HI.out.2.2.2 rfl (by decide) _ _ _ rfl (HOwn.out.alloc _) ⟨wr.heap.size, 0, none⟩ 1 1 [.int .i64 (k : Int)] rfl rfl (cell_one_new _ _ _) (by intro u hu; simp at hu; subst hu; rfl) (by unfold maxLen; omega) (by omega) (by simp; omega) ?_)
        intro v' w2 hown' hgrow _
        have HOwn' := Lib.hid hown'
        have HGr := Lib.hid hgrow
        clear hown' hgrow
        go_wp2
        go_roundw
        case rel =>
          have el : (kindsTo s (k + 1)).length = n + 1 := by rw [HA.out, List.length_append, ← HN.out]; rfl
          refine ⟨k + 1, by omega, by go_num, ?_, grownK_below HOwn.out (Nat.le_refl _) HB.out hsz HGr.out⟩
          rw [el]
          unfold OwnK
          rw [HA.out, List.map_append]
          exact HOwn'.out
        case measure => simp [intOf] <;> omega
      · have hL' : hasB s (k : Int) = false := by simpa using hL
        rw [hL'] at ha
        have HA := Lib.hid (kindsTo_no hL')
        clear hL hL'
        go_wp2_with fail
        refine (pbit_any HK.out _).mono ?_
        rintro e w1 ⟨rfl, rfl⟩
        obtain ⟨t, ht⟩ : ∃ t, t = (2 : Int) ^ (k : Int).toNat := ⟨_, rfl⟩
        rw [← ht] at ha
        rw [← ht]
        clear ht
        go_wp2
        go_roundw
        case rel => exact ⟨k + 1, by omega, by go_num, by rw [HA.out]; exact HOwn.out, HB.out⟩
        case measure => simp [intOf] <;> omega
    · obtain rfl : k = 5 := by omega
      rw [kindsTo_all] at HOwn
      obtain ⟨a, cap, rfl, hr⟩ := HOwn.out.row
      have HA := Lib.hid hr
      clear hr
      go_wp2
      go_ret
      exact ⟨a, cap, rfl, HA.out, HB.out⟩

set_option maxHeartbeats 1000000 in
set_option maxRecDepth 100000 in
theorem phas_any (s : Int) (a : Option Addr) (len cap : Nat) (ks : List Int) (w : World) (row : Row w a len ks) :
    Calls Tryz.prog 195 #[.int .i64 s, .slice a len cap] w fun e w' => e = .returned (.bool (hasAll s ks)) ∧ w = w' := by
  have HRow := Lib.hid row
  clear row
  cases hok : ksOk ks with
  | true =>
    have ha := hasAll_and s ks hok
    have HV : Hid (ksV ks = ksS ks ∧ ksE ks = 0) := Lib.hid (by unfold ksV ksE; rw [hok]; exact ⟨rfl, rfl⟩)
    clear hok
    go_enter Tryz.func195, Tryz.ntmps195
    go_wp2_with fail
    refine (pof_any _ _ _ ks _ HRow.out).mono ?_
    rintro e w1 ⟨rfl, rfl⟩
    rw [HV.out.1, HV.out.2]
    clear HV HRow
    obtain ⟨t, ht⟩ : ∃ t, t = ksS ks := ⟨_, rfl⟩
    rw [← ht] at ha
    rw [← ht]
    clear ht
    go_wp2
    go_ret
    exact ⟨by rw [← ha]; rfl, rfl⟩
  | false =>
    rw [hasAll_no hok]
    have HV : Hid (ksV ks = 0 ∧ ksE ks = 1) := Lib.hid (by unfold ksV ksE; rw [hok]; exact ⟨rfl, rfl⟩)
    clear hok
    go_enter Tryz.func195, Tryz.ntmps195
    go_wp2_with fail
    refine (pof_any _ _ _ ks _ HRow.out).mono ?_
    rintro e w1 ⟨rfl, rfl⟩
    rw [HV.out.1, HV.out.2]
    clear HV HRow
    go_wp2
    go_ret
    exact ⟨rfl, rfl⟩
theorem phas_b {s : Int} {ks : List Int} {b : Bool} (h : hasAll s ks = b) (a : Option Addr) (len cap : Nat) (w : World) (row : Row w a len ks) :
    Calls Tryz.prog 195 #[.int .i64 s, .slice a len cap] w fun e w' => e = .returned (.bool b) ∧ w = w' := (phas_any s a len cap ks w row).mono fun _ _ ⟨he, hw⟩ => ⟨by rw [he, h], hw⟩
set_option maxHeartbeats 2000000 in
set_option maxRecDepth 100000 in
theorem cl_place (X Y X' : List Value) (g : Nat) (V : List Value) (hV : (Y.drop 1).take 12 = V) (hV2 : V.length = 12) (hV3 : V.toArray.all (·.oneCell') = true) (hs : splice X 1 V = X') (w : World) (kq : Blk w g 52 Y.toArray) (hX : X.length = 24) (hX' : X'.length = 24) (ho : X'.toArray.all (·.oneCell') = true) :
    Calls Tryz.prog 300 #[.agg X.toArray, .pointer (some ⟨g, 0, none⟩)] w fun e w' => e = .returned (.agg X'.toArray) ∧ Below w.heap.size w w' := by
  have HO := Lib.hid ho
  have HS : Hid ((Tryz.prog.info? 52).map (·.size) = some X'.length) := Lib.hid (by rw [hX']; kernel_rfl)
  have HS' : Hid ((Tryz.prog.info? 52).map (·.size) = some X'.toArray.size) := Lib.hid (by rw [List.size_toArray, hX']; kernel_rfl)
  have HZ : Hid (0 + X'.toArray.size ≤ Z24.length) := Lib.hid (by rw [List.size_toArray, hX']; exact Nat.le_refl 24)
  have HZ2 : Hid (0 + X'.length ≤ Z24.length) := Lib.hid (by rw [hX']; exact Nat.le_refl 24)
  have HZ3 : Hid (X'.length = Z24.length) := Lib.hid (by rw [hX']; rfl)
  have HX := Lib.hid hX
  have KP := Lib.hid ((Blk.new w 52 X.toArray).alloc (.cells Z24.toArray 52))
  have KR := Lib.hid (blkAt (Blk.new (w.alloc (.cells X.toArray 52)) 52 Z24.toArray) (g' := w.heap.size + 1) (by simp))
  have KQ := Lib.hid ((kq.alloc (.cells X.toArray 52)).alloc (.cells Z24.toArray 52))
  have hg := kq.lt
  have KQw := Lib.hid kq
  clear ho hX hX' kq
  have HS2 : Hid ((Tryz.prog.info? 46).map (·.size) = some V.length) := Lib.hid (by rw [hV2]; kernel_rfl)
  have HS3 : Hid ((Tryz.prog.info? 46).map (·.size) = some V.toArray.size) := Lib.hid (by rw [List.size_toArray, hV2]; kernel_rfl)
  have HO3 := Lib.hid hV3
  have HV2 := Lib.hid hV2
  have HR3 : Hid (((w.alloc (.cells X.toArray 52)).alloc (.cells Z24.toArray 52)).rangeAt g 1 V) := Lib.hid (hV ▸ blk_range KQ.out 1 12)
  have HT3 : Hid (((w.alloc (.cells X.toArray 52)).alloc (.cells Z24.toArray 52)).there w.heap.size 1 V.toArray.size) := Lib.hid (blk_there KP.out (by rw [List.size_toArray, HV2.out, HX.out]; omega))
  have KP2 : Hid (Blk (((w.alloc (.cells X.toArray 52)).alloc (.cells Z24.toArray 52)).setCells w.heap.size 1 V) w.heap.size 52 X'.toArray) := Lib.hid (hs ▸ blk_setCells V KP.out (by rw [HV2.out, HX.out]; omega))
  have KR2 : Hid (Blk (((w.alloc (.cells X.toArray 52)).alloc (.cells Z24.toArray 52)).setCells w.heap.size 1 V) (w.heap.size + 1) 52 Z24.toArray) := Lib.hid (blk_setFar V KR.out (by omega))
  have HB2 : Hid (Below w.heap.size w (((w.alloc (.cells X.toArray 52)).alloc (.cells Z24.toArray 52)).setCells w.heap.size 1 V)) := Lib.hid (below_setCells V (balloc (alloc_below _ _) _) (Nat.le_refl _))
  go_enter Tryz.func300, Tryz.ntmps300
  go_wp2_with (first | refine wpList_load_mid rfl 46 (.tmp 4) rfl g 1 rfl V _ HR3.out Tryz.underlying46 rfl HS2.out ?_ | refine wpList_store_mid rfl 46 (.tmp 6) (.tmp 5) rfl w.heap.size 1 V.toArray rfl rfl HT3.out HS3.out HO3.out ?_ | refine wpList_store_mid rfl 52 (.tmp 3) (.tmp 7) rfl (w.heap.size + 1) 0 X'.toArray rfl rfl (blk_there KR2.out HZ.out) HS'.out HO.out ?_ | refine wpList_load_mid rfl 52 (.tmp 2) rfl w.heap.size 0 rfl X' _ (blk_whole KP2.out) Tryz.underlying52 rfl HS.out ?_)
  have KW := Lib.hid (splice_all HZ3.out ▸ blk_setCells X' KR2.out HZ2.out)
  refine fin (fun W => Blk W (w.heap.size + 1) 52 X'.toArray ∧ Below w.heap.size w W) ⟨KW.out, below_setCells _ HB2.out (by omega)⟩ ?_
  rintro W ⟨kr, hb⟩
  have hl := run_loadVar_mid W (w.heap.size + 1) 0 52 X' _ (blk_whole kr) Tryz.underlying52 rfl HS.out
  simp only [Act.put, List.setIfInBounds_toArray, List.set_cons_zero, List.set_cons_succ]
  exact bodyPost_ret (v := .agg X'.toArray) (results_cell Tryz.results300 rfl hl) rfl ⟨rfl, hb⟩

set_option maxHeartbeats 2000000 in
set_option maxRecDepth 100000 in
theorem cl_layer (X Y X' : List Value) (g : Nat) (l2 : Int) (x23 : Value) (hx23 : X[23]? = some x23) (hy23 : Y[23]? = some (.int .i64 l2)) (hs : X.set 23 (.int .i64 l2) = X') (w : World) (kq : Blk w g 52 Y.toArray) (hX : X.length = 24) (hX' : X'.length = 24) (ho : X'.toArray.all (·.oneCell') = true) :
    Calls Tryz.prog 303 #[.agg X.toArray, .pointer (some ⟨g, 0, none⟩)] w fun e w' => e = .returned (.agg X'.toArray) ∧ Below w.heap.size w w' := by
  have HO := Lib.hid ho
  have HS : Hid ((Tryz.prog.info? 52).map (·.size) = some X'.length) := Lib.hid (by rw [hX']; kernel_rfl)
  have HS' : Hid ((Tryz.prog.info? 52).map (·.size) = some X'.toArray.size) := Lib.hid (by rw [List.size_toArray, hX']; kernel_rfl)
  have HZ : Hid (0 + X'.toArray.size ≤ Z24.length) := Lib.hid (by rw [List.size_toArray, hX']; exact Nat.le_refl 24)
  have HZ2 : Hid (0 + X'.length ≤ Z24.length) := Lib.hid (by rw [hX']; exact Nat.le_refl 24)
  have HZ3 : Hid (X'.length = Z24.length) := Lib.hid (by rw [hX']; rfl)
  have HX := Lib.hid hX
  have KP := Lib.hid ((Blk.new w 52 X.toArray).alloc (.cells Z24.toArray 52))
  have KR := Lib.hid (blkAt (Blk.new (w.alloc (.cells X.toArray 52)) 52 Z24.toArray) (g' := w.heap.size + 1) (by simp))
  have KQ := Lib.hid ((kq.alloc (.cells X.toArray 52)).alloc (.cells Z24.toArray 52))
  have hg := kq.lt
  have KQw := Lib.hid kq
  clear ho hX hX' kq
  have q23 : w.cell? ⟨g, 23, none⟩ = some (.int .i64 l2) := by rw [KQw.out.cell 23]; simpa using hy23
  have p23 : ((w.alloc (.cells X.toArray 52)).alloc (.cells Z24.toArray 52)).cell? ⟨w.heap.size, 23, none⟩ = some x23 := by rw [KP.out.cell 23]; simpa using hx23
  have f23 : ((w.alloc (.cells X.toArray 52)).alloc (.cells Z24.toArray 52)).frozen? ⟨w.heap.size, 23, none⟩ = false := KP.out.frozen 23
  have KP2 : Hid (Blk ((w.alloc (.cells X'.toArray 52)).alloc (.cells Z24.toArray 52)) w.heap.size 52 X'.toArray) := Lib.hid ((Blk.new w 52 X'.toArray).alloc (.cells Z24.toArray 52))
  have KR2 : Hid (Blk ((w.alloc (.cells X'.toArray 52)).alloc (.cells Z24.toArray 52)) (w.heap.size + 1) 52 Z24.toArray) := Lib.hid (blkAt (Blk.new (w.alloc (.cells X'.toArray 52)) 52 Z24.toArray) (g' := w.heap.size + 1) (by simp))
  have HB2 : Hid (Below w.heap.size w ((w.alloc (.cells X'.toArray 52)).alloc (.cells Z24.toArray 52))) := Lib.hid (balloc (alloc_below _ _) _)
  go_enter Tryz.func303, Tryz.ntmps303
  go_wp2_with (first | refine wpList_store_mid rfl 52 (.tmp 3) (.tmp 7) rfl (w.heap.size + 1) 0 X'.toArray rfl rfl (blk_there KR2.out HZ.out) HS'.out HO.out ?_ | refine wpList_load_mid rfl 52 (.tmp 2) rfl w.heap.size 0 rfl X' _ (blk_whole KP2.out) Tryz.underlying52 rfl HS.out ?_)
  have KW := Lib.hid (splice_all HZ3.out ▸ blk_setCells X' KR2.out HZ2.out)
  refine fin (fun W => Blk W (w.heap.size + 1) 52 X'.toArray ∧ Below w.heap.size w W) ⟨KW.out, below_setCells _ HB2.out (by omega)⟩ ?_
  rintro W ⟨kr, hb⟩
  have hl := run_loadVar_mid W (w.heap.size + 1) 0 52 X' _ (blk_whole kr) Tryz.underlying52 rfl HS.out
  simp only [Act.put, List.setIfInBounds_toArray, List.set_cons_zero, List.set_cons_succ]
  exact bodyPost_ret (v := .agg X'.toArray) (results_cell Tryz.results303 rfl hl) rfl ⟨rfl, hb⟩

set_option maxHeartbeats 2000000 in
set_option maxRecDepth 100000 in
theorem cl_hide (X X' : List Value) (hs : X = X') (w : World) (hX : X.length = 24) (hX' : X'.length = 24) (ho : X'.toArray.all (·.oneCell') = true) :
    Calls Tryz.prog 304 #[.agg X.toArray] w fun e w' => e = .returned (.agg X'.toArray) ∧ Below w.heap.size w w' := by
  have HO := Lib.hid ho
  have HS : Hid ((Tryz.prog.info? 52).map (·.size) = some X'.length) := Lib.hid (by rw [hX']; kernel_rfl)
  have HS' : Hid ((Tryz.prog.info? 52).map (·.size) = some X'.toArray.size) := Lib.hid (by rw [List.size_toArray, hX']; kernel_rfl)
  have HZ : Hid (0 + X'.toArray.size ≤ Z24.length) := Lib.hid (by rw [List.size_toArray, hX']; exact Nat.le_refl 24)
  have HZ2 : Hid (0 + X'.length ≤ Z24.length) := Lib.hid (by rw [hX']; exact Nat.le_refl 24)
  have HZ3 : Hid (X'.length = Z24.length) := Lib.hid (by rw [hX']; rfl)
  have HX := Lib.hid hX
  have KP := Lib.hid ((Blk.new w 52 X.toArray).alloc (.cells Z24.toArray 52))
  have KR := Lib.hid (blkAt (Blk.new (w.alloc (.cells X.toArray 52)) 52 Z24.toArray) (g' := w.heap.size + 1) (by simp))
  skip
  skip
  skip
  clear ho hX hX' 
  have Hs := Lib.hid hs
  clear hs
  have KP2 : Hid (Blk ((w.alloc (.cells X.toArray 52)).alloc (.cells Z24.toArray 52)) w.heap.size 52 X'.toArray) := Lib.hid (Hs.out ▸ KP.out)
  have KR2 : Hid (Blk ((w.alloc (.cells X.toArray 52)).alloc (.cells Z24.toArray 52)) (w.heap.size + 1) 52 Z24.toArray) := Lib.hid (KR.out)
  have HB2 : Hid (Below w.heap.size w ((w.alloc (.cells X.toArray 52)).alloc (.cells Z24.toArray 52))) := Lib.hid (balloc (alloc_below _ _) _)
  go_enter Tryz.func304, Tryz.ntmps304
  go_wp2_with (first | refine wpList_store_mid rfl 52 (.tmp 2) (.tmp 3) rfl (w.heap.size + 1) 0 X'.toArray rfl rfl (blk_there KR2.out HZ.out) HS'.out HO.out ?_ | refine wpList_load_mid rfl 52 (.tmp 1) rfl w.heap.size 0 rfl X' _ (blk_whole KP2.out) Tryz.underlying52 rfl HS.out ?_)
  have KW := Lib.hid (splice_all HZ3.out ▸ blk_setCells X' KR2.out HZ2.out)
  refine fin (fun W => Blk W (w.heap.size + 1) 52 X'.toArray ∧ Below w.heap.size w W) ⟨KW.out, below_setCells _ HB2.out (by omega)⟩ ?_
  rintro W ⟨kr, hb⟩
  have hl := run_loadVar_mid W (w.heap.size + 1) 0 52 X' _ (blk_whole kr) Tryz.underlying52 rfl HS.out
  simp only [Act.put, List.setIfInBounds_toArray, List.set_cons_zero, List.set_cons_succ]
  exact bodyPost_ret (v := .agg X'.toArray) (results_cell Tryz.results304 rfl hl) rfl ⟨rfl, hb⟩

set_option maxHeartbeats 2000000 in
set_option maxRecDepth 100000 in
theorem cl_shape (X Y X' : List Value) (g : Nat) (V : List Value) (m2 : Int) (x13 : Value) (hx13 : X[13]? = some x13) (hy13 : Y[13]? = some (.int .i64 m2)) (hV : (Y.drop 14).take 6 = V) (hV2 : V.length = 6) (hV3 : V.toArray.all (·.oneCell') = true) (hs : splice (X.set 13 (.int .i64 m2)) 14 V = X') (w : World) (kq : Blk w g 52 Y.toArray) (hX : X.length = 24) (hX' : X'.length = 24) (ho : X'.toArray.all (·.oneCell') = true) :
    Calls Tryz.prog 301 #[.agg X.toArray, .pointer (some ⟨g, 0, none⟩)] w fun e w' => e = .returned (.agg X'.toArray) ∧ Below w.heap.size w w' := by
  have HO := Lib.hid ho
  have HS : Hid ((Tryz.prog.info? 52).map (·.size) = some X'.length) := Lib.hid (by rw [hX']; kernel_rfl)
  have HS' : Hid ((Tryz.prog.info? 52).map (·.size) = some X'.toArray.size) := Lib.hid (by rw [List.size_toArray, hX']; kernel_rfl)
  have HZ : Hid (0 + X'.toArray.size ≤ Z24.length) := Lib.hid (by rw [List.size_toArray, hX']; exact Nat.le_refl 24)
  have HZ2 : Hid (0 + X'.length ≤ Z24.length) := Lib.hid (by rw [hX']; exact Nat.le_refl 24)
  have HZ3 : Hid (X'.length = Z24.length) := Lib.hid (by rw [hX']; rfl)
  have HX := Lib.hid hX
  have HS2 : Hid ((Tryz.prog.info? 50).map (·.size) = some V.length) := Lib.hid (by rw [hV2]; kernel_rfl)
  have HS3 : Hid ((Tryz.prog.info? 50).map (·.size) = some V.toArray.size) := Lib.hid (by rw [List.size_toArray, hV2]; kernel_rfl)
  have HO3 := Lib.hid hV3
  have HVV := Lib.hid hV
  have HV2 := Lib.hid hV2
  have Hs := Lib.hid hs
  clear hV hV2 hV3 hs
  have KQ0 := Lib.hid kq
  have hg := kq.lt
  clear ho hX hX' kq
  go_enter Tryz.func301, Tryz.ntmps301
  go_wp2_with fail
  refine fin (fun W => Blk W w.heap.size 52 X.toArray ∧ Blk W (w.heap.size + 1) 52 Z24.toArray ∧ Blk W g 52 Y.toArray ∧ Below w.heap.size w W) ⟨(Blk.new w 52 X.toArray).alloc (.cells Z24.toArray 52), blkAt (Blk.new (w.alloc (.cells X.toArray 52)) 52 Z24.toArray) (by simp), (KQ0.out.alloc _).alloc _, balloc (alloc_below _ _) _⟩ ?_
  rintro W ⟨kp, kr, kq, hb⟩
  have KP := Lib.hid kp
  have KR := Lib.hid kr
  have KQ := Lib.hid kq
  have HB := Lib.hid hb
  clear kp kr hb kq KQ0
  have q13 : ∀ u, Blk u g 52 Y.toArray → u.cell? ⟨g, 13, none⟩ = some (.int .i64 m2) ∧ u.rangeAt g 14 V := fun _ k => ⟨by rw [k.cell 13]; simpa using hy13, HVV.out ▸ blk_range k 14 6⟩
  have Q13 := Lib.hid q13
  clear q13
  have p13 : W.cell? ⟨w.heap.size, 13, none⟩ = some x13 := by rw [KP.out.cell 13]; simpa using hx13
  have f13 : W.frozen? ⟨w.heap.size, 13, none⟩ = false := KP.out.frozen 13
  have hu := Tryz.underlying50
  go_wp2_with fail
  refine wp_region_held_drew (S := fun w' => w'.cell? ⟨g, 13, none⟩ = some (.int .i64 m2) ∧ w'.rangeAt g 14 V) (by kernel_rfl) (Q13.out _ KQ.out) (fun hHeld => ?_)
  refine tk 0 hHeld ?_
  refine tk 1 hHeld ?_
  refine tk 2 hHeld ?_
  refine tkl 3 rfl (yieldsIf_load_mid (by rfl) _ _ rfl _ _ rfl _ _ (fun _ h => h.2) hu rfl HS2.out) hHeld ?_
  refine tk 4 hHeld ?_
  refine rd 5 (fun K hK => ?_)
  go_simp
  refine hK.out _ _ (Q13.out _ (KQ.out.far (p := ⟨w.heap.size, 13, none⟩) (by simp; omega) _)) (fun hHeld => ?_)
  clear hK K
  refine tk 6 hHeld ?_
  have K1 := Lib.hid (show Blk (W.setCell ⟨w.heap.size, 13, none⟩ (.int .i64 m2)) w.heap.size 52 (X.set 13 (.int .i64 m2)).toArray by have := KP.out.set_ 13 (.int .i64 m2); simpa using this)
  refine rd 7 (fun K hK => ?_)
  rw [if_pos (by rfl)]
  refine wp_store_mid 50 _ _ rfl w.heap.size 14 V.toArray rfl rfl (blk_there (Blk.drew K1.out) (by rw [List.size_toArray, HV2.out, List.length_set, HX.out]; omega)) HS3.out HO3.out ?_
  refine hK.out _ _ (Q13.out _ (blk_setFar V (KQ.out.far (p := ⟨w.heap.size, 13, none⟩) (by simp; omega) _) (by omega))) (fun hHeld => ?_)
  clear hK K
  refine wpAnyH_done (by kernel_rfl) ?_ _
  clear hHeld
  refine fin (fun W => Blk W w.heap.size 52 X'.toArray ∧ Blk W (w.heap.size + 1) 52 Z24.toArray ∧ Below w.heap.size w W) ⟨Hs.out ▸ blk_setCells V (Blk.drew K1.out) (by rw [HV2.out, List.length_set, HX.out]; omega), blk_setFar V (Blk.drew (KR.out.far (p := ⟨w.heap.size, 13, none⟩) (by simp) _)) (by omega), below_setCells V (bdrewn (HB.out.setCell (p := ⟨w.heap.size, 13, none⟩) (Nat.le_refl _) _)) (Nat.le_refl _)⟩ ?_
  rintro W2 ⟨kp, kr, hb⟩
  have KP2 := Lib.hid kp
  have KR2 := Lib.hid kr
  have HB2 := Lib.hid hb
  clear kp kr hb KP KR HB KQ
  go_wp2_with (first | refine wpList_store_mid rfl 52 (.tmp 3) (.tmp 10) rfl (w.heap.size + 1) 0 X'.toArray rfl rfl (blk_there KR2.out HZ.out) HS'.out HO.out ?_ | refine wpList_load_mid rfl 52 (.tmp 2) rfl w.heap.size 0 rfl X' _ (blk_whole KP2.out) Tryz.underlying52 rfl HS.out ?_)
  have KW := Lib.hid (splice_all HZ3.out ▸ blk_setCells X' KR2.out HZ2.out)
  refine fin (fun W => Blk W (w.heap.size + 1) 52 X'.toArray ∧ Below w.heap.size w W) ⟨KW.out, below_setCells _ HB2.out (by omega)⟩ ?_
  rintro W ⟨kr, hb⟩
  have hl := run_loadVar_mid W (w.heap.size + 1) 0 52 X' _ (blk_whole kr) Tryz.underlying52 rfl HS.out
  simp only [Act.put, List.setIfInBounds_toArray]
  exact bodyPost_ret (v := .agg X'.toArray) (results_cell Tryz.results301 rfl hl) rfl ⟨rfl, hb⟩

set_option maxHeartbeats 2000000 in
set_option maxRecDepth 100000 in
theorem cl_paint (X Y X' : List Value) (g : Nat) (p2 a2 : Int) (c2 : Bool) (x20 x21 x22 : Value) (hx20 : X[20]? = some x20) (hx21 : X[21]? = some x21) (hx22 : X[22]? = some x22) (hy20 : Y[20]? = some (.int .i64 p2)) (hy21 : Y[21]? = some (.int .i64 a2)) (hy22 : Y[22]? = some (.bool c2)) (hs : ((X.set 20 (.int .i64 p2)).set 21 (.int .i64 a2)).set 22 (.bool c2) = X') (w : World) (kq : Blk w g 52 Y.toArray) (hX : X.length = 24) (hX' : X'.length = 24) (ho : X'.toArray.all (·.oneCell') = true) :
    Calls Tryz.prog 302 #[.agg X.toArray, .pointer (some ⟨g, 0, none⟩)] w fun e w' => e = .returned (.agg X'.toArray) ∧ Below w.heap.size w w' := by
  have HO := Lib.hid ho
  have HS : Hid ((Tryz.prog.info? 52).map (·.size) = some X'.length) := Lib.hid (by rw [hX']; kernel_rfl)
  have HS' : Hid ((Tryz.prog.info? 52).map (·.size) = some X'.toArray.size) := Lib.hid (by rw [List.size_toArray, hX']; kernel_rfl)
  have HZ : Hid (0 + X'.toArray.size ≤ Z24.length) := Lib.hid (by rw [List.size_toArray, hX']; exact Nat.le_refl 24)
  have HZ2 : Hid (0 + X'.length ≤ Z24.length) := Lib.hid (by rw [hX']; exact Nat.le_refl 24)
  have HZ3 : Hid (X'.length = Z24.length) := Lib.hid (by rw [hX']; rfl)
  have HX := Lib.hid hX
  have Hs := Lib.hid hs
  clear hs
  have KQ0 := Lib.hid kq
  have hg := kq.lt
  clear ho hX hX' kq
  go_enter Tryz.func302, Tryz.ntmps302
  go_wp2_with fail
  refine fin (fun W => Blk W w.heap.size 52 X.toArray ∧ Blk W (w.heap.size + 1) 52 Z24.toArray ∧ Blk W g 52 Y.toArray ∧ Below w.heap.size w W) ⟨(Blk.new w 52 X.toArray).alloc (.cells Z24.toArray 52), blkAt (Blk.new (w.alloc (.cells X.toArray 52)) 52 Z24.toArray) (by simp), (KQ0.out.alloc _).alloc _, balloc (alloc_below _ _) _⟩ ?_
  rintro W ⟨kp, kr, kq, hb⟩
  have KP := Lib.hid kp
  have KR := Lib.hid kr
  have KQ := Lib.hid kq
  have HB := Lib.hid hb
  clear kp kr hb kq KQ0
  have q20 : ∀ u, Blk u g 52 Y.toArray → u.cell? ⟨g, 20, none⟩ = some (.int .i64 p2) ∧ u.cell? ⟨g, 21, none⟩ = some (.int .i64 a2) ∧ u.cell? ⟨g, 22, none⟩ = some (.bool c2) := fun _ k => ⟨by rw [k.cell 20]; simpa using hy20, by rw [k.cell 21]; simpa using hy21, by rw [k.cell 22]; simpa using hy22⟩
  have Q20 := Lib.hid q20
  clear q20
  have p20 : W.cell? ⟨w.heap.size, 20, none⟩ = some x20 := by rw [KP.out.cell 20]; simpa using hx20
  have f20 : W.frozen? ⟨w.heap.size, 20, none⟩ = false := KP.out.frozen 20
  have K1 := Lib.hid (show Blk (W.setCell ⟨w.heap.size, 20, none⟩ (.int .i64 p2)) w.heap.size 52 (X.set 20 (.int .i64 p2)).toArray by have := KP.out.set_ 20 (.int .i64 p2); simpa using this)
  have p21 : (W.setCell ⟨w.heap.size, 20, none⟩ (.int .i64 p2)).cell? ⟨w.heap.size, 21, none⟩ = some x21 := by rw [K1.out.cell 21]; simpa using hx21
  have f21 : (W.setCell ⟨w.heap.size, 20, none⟩ (.int .i64 p2)).frozen? ⟨w.heap.size, 21, none⟩ = false := K1.out.frozen 21
  have K2 := Lib.hid (show Blk ((W.setCell ⟨w.heap.size, 20, none⟩ (.int .i64 p2)).setCell ⟨w.heap.size, 21, none⟩ (.int .i64 a2)) w.heap.size 52 ((X.set 20 (.int .i64 p2)).set 21 (.int .i64 a2)).toArray by have := K1.out.set_ 21 (.int .i64 a2); simpa using this)
  have p22 : ((W.setCell ⟨w.heap.size, 20, none⟩ (.int .i64 p2)).setCell ⟨w.heap.size, 21, none⟩ (.int .i64 a2)).cell? ⟨w.heap.size, 22, none⟩ = some x22 := by rw [K2.out.cell 22]; simpa using hx22
  have f22 : ((W.setCell ⟨w.heap.size, 20, none⟩ (.int .i64 p2)).setCell ⟨w.heap.size, 21, none⟩ (.int .i64 a2)).frozen? ⟨w.heap.size, 22, none⟩ = false := K2.out.frozen 22
  have K3 := Lib.hid (show Blk (((W.setCell ⟨w.heap.size, 20, none⟩ (.int .i64 p2)).setCell ⟨w.heap.size, 21, none⟩ (.int .i64 a2)).setCell ⟨w.heap.size, 22, none⟩ (.bool c2)) w.heap.size 52 (((X.set 20 (.int .i64 p2)).set 21 (.int .i64 a2)).set 22 (.bool c2)).toArray by have := K2.out.set_ 22 (.bool c2); simpa using this)
  go_wp2_with fail
  refine wp_region_held_drew (S := fun w' => w'.cell? ⟨g, 20, none⟩ = some (.int .i64 p2) ∧ w'.cell? ⟨g, 21, none⟩ = some (.int .i64 a2) ∧ w'.cell? ⟨g, 22, none⟩ = some (.bool c2)) (by kernel_rfl) (Q20.out _ KQ.out) (fun hHeld => ?_)
  refine tk 0 hHeld ?_
  refine tk 1 hHeld ?_
  refine tk 2 hHeld ?_
  refine tk 3 hHeld ?_
  refine tk 4 hHeld ?_
  refine tk 5 hHeld ?_
  refine tk 6 hHeld ?_
  refine rd 7 (fun K hK => ?_)
  go_simp
  refine hK.out _ _ (Q20.out _ (KQ.out.far (p := ⟨w.heap.size, 20, none⟩) (by simp; omega) _)) (fun hHeld => ?_)
  clear hK K
  refine tk 8 hHeld ?_
  refine rd 9 (fun K hK => ?_)
  go_simp
  refine hK.out _ _ (Q20.out _ ((KQ.out.far (p := ⟨w.heap.size, 20, none⟩) (by simp; omega) _).far (p := ⟨w.heap.size, 21, none⟩) (by simp; omega) _)) (fun hHeld => ?_)
  clear hK K
  refine tk 10 hHeld ?_
  refine rd 11 (fun K hK => ?_)
  go_simp
  refine hK.out _ _ (Q20.out _ (((KQ.out.far (p := ⟨w.heap.size, 20, none⟩) (by simp; omega) _).far (p := ⟨w.heap.size, 21, none⟩) (by simp; omega) _).far (p := ⟨w.heap.size, 22, none⟩) (by simp; omega) _)) (fun hHeld => ?_)
  clear hK K
  refine wpAnyH_done (by kernel_rfl) ?_ _
  clear hHeld
  refine fin (fun W => Blk W w.heap.size 52 X'.toArray ∧ Blk W (w.heap.size + 1) 52 Z24.toArray ∧ Below w.heap.size w W) ⟨Hs.out ▸ Blk.drew (Blk.drew (Blk.drew (Blk.drew K3.out))), Blk.drew (Blk.drew (Blk.drew (Blk.drew (((KR.out.far (p := ⟨w.heap.size, 20, none⟩) (by simp) _).far (p := ⟨w.heap.size, 21, none⟩) (by simp) _).far (p := ⟨w.heap.size, 22, none⟩) (by simp) _)))), bdrewn (((HB.out.setCell (p := ⟨w.heap.size, 20, none⟩) (Nat.le_refl _) _).setCell (p := ⟨w.heap.size, 21, none⟩) (Nat.le_refl _) _).setCell (p := ⟨w.heap.size, 22, none⟩) (Nat.le_refl _) _)⟩ ?_
  rintro W2 ⟨kp, kr, hb⟩
  have KP2 := Lib.hid kp
  have KR2 := Lib.hid kr
  have HB2 := Lib.hid hb
  clear kp kr hb KP KR HB KQ
  go_wp2_with (first | refine wpList_store_mid rfl 52 (.tmp 3) (.tmp 13) rfl (w.heap.size + 1) 0 X'.toArray rfl rfl (blk_there KR2.out HZ.out) HS'.out HO.out ?_ | refine wpList_load_mid rfl 52 (.tmp 2) rfl w.heap.size 0 rfl X' _ (blk_whole KP2.out) Tryz.underlying52 rfl HS.out ?_)
  have KW := Lib.hid (splice_all HZ3.out ▸ blk_setCells X' KR2.out HZ2.out)
  refine fin (fun W => Blk W (w.heap.size + 1) 52 X'.toArray ∧ Below w.heap.size w W) ⟨KW.out, below_setCells _ HB2.out (by omega)⟩ ?_
  rintro W ⟨kr, hb⟩
  have hl := run_loadVar_mid W (w.heap.size + 1) 0 52 X' _ (blk_whole kr) Tryz.underlying52 rfl HS.out
  simp only [Act.put, List.setIfInBounds_toArray]
  exact bodyPost_ret (v := .agg X'.toArray) (results_cell Tryz.results302 rfl hl) rfl ⟨rfl, hb⟩

def capOf (g : Nat) (k : Int) : Array Value := if k = 4 then #[] else #[.pointer (some ⟨g, 0, none⟩)]
def clOf (k : Int) : Nat := if k = 0 then 300 else if k = 1 then 301 else if k = 2 then 302 else if k = 3 then 303 else 304
theorem enters_cl1 : Enters 300 := fun _ _ => by kernel_rfl
theorem enters_cl2 : Enters 301 := fun _ _ => by kernel_rfl
theorem enters_cl3 : Enters 302 := fun _ _ => by kernel_rfl
theorem enters_cl4 : Enters 303 := fun _ _ => by kernel_rfl
theorem enters_cl5 : Enters 304 := fun _ _ => by kernel_rfl
theorem cl_enters {k : Int} (hk : kOk k = true) : Enters (clOf k) := by
  have e : ∀ j : Int, clOf j = (if j = 0 then 300 else if j = 1 then 301 else if j = 2 then 302 else if j = 3 then 303 else 304) := fun _ => rfl
  rcases kOk_cases hk with rfl | rfl | rfl | rfl | rfl
  · rw [e, if_pos (by omega)]; exact enters_cl1
  · rw [e, if_neg (by omega), if_pos (by omega)]; exact enters_cl2
  · rw [e, if_neg (by omega), if_neg (by omega), if_pos (by omega)]; exact enters_cl3
  · rw [e, if_neg (by omega), if_neg (by omega), if_neg (by omega), if_pos (by omega)]; exact enters_cl4
  · rw [e, if_neg (by omega), if_neg (by omega), if_neg (by omega), if_neg (by omega)]; exact enters_cl5
theorem cl_any {k : Int} (hk : kOk k = true) (g : Nat) (P Q : PT) (w : World) (kq : Blk w g 52 (pl Q).toArray) :
    Calls Tryz.prog (clOf k) (#[.agg (pl P).toArray] ++ capOf g k) w fun e w' => e = .returned (.agg (pl (layT k P Q)).toArray) ∧ Below w.heap.size w w' := by
  obtain ⟨h, M, m, B, p, a, c, l⟩ := P
  obtain ⟨h2, N, m2, B2, p2, a2, c2, l2⟩ := Q
  rcases kOk_cases hk with rfl | rfl | rfl | rfl | rfl
  · exact cl_place _ _ (PL h N m B p a c l) g _ rfl rfl (all_oneCell_toArray (fun v hv => by
      have e : ((PL h2 N m2 B2 p2 a2 c2 l2).drop 1).take 12 = [.int .i64 (N 0), .int .i64 (N 1), .int .i64 (N 2), .int .i64 (N 3), .int .i64 (N 4), .int .i64 (N 5), .int .i64 (N 6), .int .i64 (N 7), .int .i64 (N 8), .int .i64 (N 9), .int .i64 (N 10), .int .i64 (N 11)] := rfl
      have hv : v ∈ [.int .i64 (N 0), .int .i64 (N 1), .int .i64 (N 2), .int .i64 (N 3), .int .i64 (N 4), .int .i64 (N 5), .int .i64 (N 6), .int .i64 (N 7), .int .i64 (N 8), .int .i64 (N 9), .int .i64 (N 10), .int .i64 (N 11)] := hv
      simp only [List.mem_cons, List.not_mem_nil, or_false] at hv
      rcases hv with rfl | rfl | rfl | rfl | rfl | rfl | rfl | rfl | rfl | rfl | rfl | rfl <;> rfl)) rfl w kq rfl rfl (PL_one _ _ _ _ _ _ _ _)
  · exact cl_shape _ _ (PL h M m2 B2 p a c l) g _ m2 (.int .i64 m) rfl rfl rfl rfl (all_oneCell_toArray (fun v hv => by
      have hv : v ∈ [.int .i64 (B2 0), .int .i64 (B2 1), .int .i64 (B2 2), .int .i64 (B2 3), .int .i64 (B2 4), .int .i64 (B2 5)] := hv
      simp only [List.mem_cons, List.not_mem_nil, or_false] at hv
      rcases hv with rfl | rfl | rfl | rfl | rfl | rfl <;> rfl)) rfl w kq rfl rfl (PL_one _ _ _ _ _ _ _ _)
  · exact cl_paint _ _ (PL h M m B p2 a2 c2 l) g p2 a2 c2 (.int .i64 p) (.int .i64 a) (.bool c) rfl rfl rfl rfl rfl rfl rfl w kq rfl rfl (PL_one _ _ _ _ _ _ _ _)
  · exact cl_layer _ _ (PL h M m B p a c l2) g l2 (.int .i64 l) rfl rfl rfl w kq rfl rfl (PL_one _ _ _ _ _ _ _ _)
  · exact cl_hide _ (PL h M m B p a c l) rfl w rfl rfl (PL_one _ _ _ _ _ _ _ _)

theorem set_last (w : World) (o o' : Obj) : ({ w.alloc o with heap := (w.alloc o).heap.setIfInBounds w.heap.size o' } : World) = w.alloc o' := by
  have h : (w.alloc o).heap.setIfInBounds w.heap.size o' = (w.alloc o').heap := by
    show (w.heap.push o).setIfInBounds w.heap.size o' = w.heap.push o'
    refine Array.ext' ?_
    rw [Array.toList_setIfInBounds, Array.toList_push, Array.toList_push, ← Array.length_toList, List.set_append_right _ _ (Nat.le_refl _)]
    simp
  rw [h]
  rfl
theorem kind_law : Go.Maps.Keyed Tryz.prog 244 := Go.Maps.int_keyed Tryz.underlying244
theorem run_find {w : World} {es : List MapEntry} {k : Int} {r : Option (Nat × Value)} (h : Instr.findNow (.int .i64) (.int .i64 k) es 0 = some r) : (Instr.findKey 244 (.int .i64 k) es).run Tryz.prog w = .ok r w := by
  unfold Instr.findKey
  simp only [Sem.run_bind, run_underlying Tryz.underlying244, Result.andThen, h]
  rfl
theorem kind_key {k : Int} (hk : kOk k = true) : keyOf Tryz.prog 244 (.int .i64 k) = some (.int .i64 k) := by
  refine Go.Maps.keyOf_int_mk Tryz.underlying244 ?_
  rcases kOk_cases hk with rfl | rfl | rfl | rfl | rfl <;> decide
theorem run_put (w : World) (es : Array MapEntry) (n b : Nat) (hb : w.heap.size = b) {k : Int} (hk : kOk k = true) (v : Value) (hn : Instr.findNow (.int .i64) (.int .i64 k) es.toList 0 = some none) :
    (Instr.mapUpdate 359 (.map (some b)) (.int .i64 k) v).run Tryz.prog (w.alloc (.map es n)) = .ok () (w.alloc (.map (es.push ⟨.int .i64 k, v, n⟩) (n + 1))) := by
  subst hb
  have hh : (w.alloc (.map es n)).heap[w.heap.size]? = some (.map es n) := heap_alloc_new w (.map es n)
  simp [Instr.mapUpdate, run_underlying Tryz.underlying359, MapKept.run_getObj_map hh, kind_law.check (w.alloc (.map es n)) false (kind_key hk), run_find hn, MapKept.run_setObj_map _ hh, Result.andThen]
  exact set_last w _ _
theorem run_get {w : World} {es : Array MapEntry} {n b : Nat} (hb : w.heap[b]? = some (.map es n)) {k : Int} (hk : kOk k = true) {i : Nat} {v : Value} (hf : Instr.findNow (.int .i64) (.int .i64 k) es.toList 0 = some (some (i, v))) :
    (Instr.lookup 359 (.map (some b)) (.int .i64 k) false).run Tryz.prog w = .ok v w := by
  simp [Instr.lookup, run_underlying Tryz.underlying359, MapKept.run_getObj_map hb, kind_law.check w _ (kind_key hk), run_find hf, Result.andThen]
def laysE (g : Nat) : Array MapEntry := #[⟨.int .i64 0, .func (.func (clOf 0)) #[] (capOf g 0), 0⟩, ⟨.int .i64 1, .func (.func (clOf 1)) #[] (capOf g 1), 1⟩, ⟨.int .i64 2, .func (.func (clOf 2)) #[] (capOf g 2), 2⟩, ⟨.int .i64 3, .func (.func (clOf 3)) #[] (capOf g 3), 3⟩, ⟨.int .i64 4, .func (.func (clOf 4)) #[] (capOf g 4), 4⟩]
theorem lays_get {w : World} {b g : Nat} (hb : w.heap[b]? = some (.map (laysE g) 5)) {k : Int} (hk : kOk k = true) :
    (Instr.lookup 359 (.map (some b)) (.int .i64 k) false).run Tryz.prog w = .ok (.func (.func (clOf k)) #[] (capOf g k)) w := by
  rcases kOk_cases hk with rfl | rfl | rfl | rfl | rfl
  · exact run_get hb hk (i := 0) rfl
  · exact run_get hb hk (i := 1) rfl
  · exact run_get hb hk (i := 2) rfl
  · exact run_get hb hk (i := 3) rfl
  · exact run_get hb hk (i := 4) rfl

set_option maxHeartbeats 1000000 in
set_option maxRecDepth 100000 in
theorem layings_any (X : List Value) (w : World) :
    Calls Tryz.prog 274 #[.agg X.toArray] w fun e w' => e = .returned (.map (some (w.heap.size + 1))) ∧ w' = (w.alloc (.cells X.toArray 52)).alloc (.map (laysE w.heap.size) 5) := by
  have hmm := @run_makeMap Tryz.prog
  have hp0 := run_put (w.alloc (.cells X.toArray 52)) #[] 0 (w.heap.size + 1) (by simp) (k := 0) rfl (.func (.func (clOf 0)) #[] (capOf w.heap.size 0)) rfl
  have hp1 := run_put (w.alloc (.cells X.toArray 52)) #[⟨.int .i64 0, .func (.func (clOf 0)) #[] (capOf w.heap.size 0), 0⟩] 1 (w.heap.size + 1) (by simp) (k := 1) rfl (.func (.func (clOf 1)) #[] (capOf w.heap.size 1)) rfl
  have hp2 := run_put (w.alloc (.cells X.toArray 52)) #[⟨.int .i64 0, .func (.func (clOf 0)) #[] (capOf w.heap.size 0), 0⟩, ⟨.int .i64 1, .func (.func (clOf 1)) #[] (capOf w.heap.size 1), 1⟩] 2 (w.heap.size + 1) (by simp) (k := 2) rfl (.func (.func (clOf 2)) #[] (capOf w.heap.size 2)) rfl
  have hp3 := run_put (w.alloc (.cells X.toArray 52)) #[⟨.int .i64 0, .func (.func (clOf 0)) #[] (capOf w.heap.size 0), 0⟩, ⟨.int .i64 1, .func (.func (clOf 1)) #[] (capOf w.heap.size 1), 1⟩, ⟨.int .i64 2, .func (.func (clOf 2)) #[] (capOf w.heap.size 2), 2⟩] 3 (w.heap.size + 1) (by simp) (k := 3) rfl (.func (.func (clOf 3)) #[] (capOf w.heap.size 3)) rfl
  have hp4 := run_put (w.alloc (.cells X.toArray 52)) #[⟨.int .i64 0, .func (.func (clOf 0)) #[] (capOf w.heap.size 0), 0⟩, ⟨.int .i64 1, .func (.func (clOf 1)) #[] (capOf w.heap.size 1), 1⟩, ⟨.int .i64 2, .func (.func (clOf 2)) #[] (capOf w.heap.size 2), 2⟩, ⟨.int .i64 3, .func (.func (clOf 3)) #[] (capOf w.heap.size 3), 3⟩] 4 (w.heap.size + 1) (by simp) (k := 4) rfl (.func (.func (clOf 4)) #[] (capOf w.heap.size 4)) rfl
  rw [show clOf 0 = 300 from rfl, show capOf w.heap.size 0 = #[.pointer (some ⟨w.heap.size, 0, none⟩)] from rfl] at hp0 hp1 hp2 hp3 hp4
  rw [show clOf 1 = 301 from rfl, show capOf w.heap.size 1 = #[.pointer (some ⟨w.heap.size, 0, none⟩)] from rfl] at hp1 hp2 hp3 hp4
  rw [show clOf 2 = 302 from rfl, show capOf w.heap.size 2 = #[.pointer (some ⟨w.heap.size, 0, none⟩)] from rfl] at hp2 hp3 hp4
  rw [show clOf 3 = 303 from rfl, show capOf w.heap.size 3 = #[.pointer (some ⟨w.heap.size, 0, none⟩)] from rfl] at hp3 hp4
  rw [show clOf 4 = 304 from rfl, show capOf w.heap.size 4 = #[] from rfl] at hp4
  simp only [List.push_toArray, List.nil_append, List.cons_append] at hp0 hp1 hp2 hp3 hp4
  go_enter Tryz.func274, Tryz.ntmps274
  go_wp2
  go_ret
  exact ⟨rfl, rfl⟩

theorem layings_ex (X : List Value) (w : World) :
    Calls Tryz.prog 274 #[.agg X.toArray] w fun e w' => ∃ G GM, e = .returned (.map (some GM)) ∧ w.heap.size ≤ G ∧ w'.heap[GM]? = some (.map (laysE G) 5) ∧ Blk w' G 52 X.toArray ∧ Below w.heap.size w w' := by
  refine (layings_any X w).mono ?_
  rintro e w' ⟨rfl, rfl⟩
  refine ⟨w.heap.size, w.heap.size + 1, rfl, Nat.le_refl _, ?_, (Blk.new w 52 X.toArray).alloc _, balloc (alloc_below _ _) _⟩
  have h := heap_alloc_new (w.alloc (.cells X.toArray 52)) (.map (laysE w.heap.size) 5)
  rw [World.size_alloc] at h
  exact h
theorem map_keep {w w' : World} {b n : Nat} {es : Array MapEntry} (h : w.heap[b]? = some (.map es n)) (hb : Below w.heap.size w w') : w'.heap[b]? = some (.map es n) := (hb.block b (Array.getElem?_eq_some_iff.1 h).1).trans h
theorem map_set {w : World} {b n : Nat} {es : Array MapEntry} (h : w.heap[b]? = some (.map es n)) {g t : Nat} {cs : Array Value} (hg : Blk w g t cs) (o : Nat) (v : Value) : (w.setCell ⟨g, o, none⟩ v).heap[b]? = some (.map es n) := by
  have hne : b ≠ g := fun e => by subst e; unfold Blk at hg; rw [hg] at h; cases h
  rw [← h]
  simp [World.setCell, Array.getElem?_modify, Ne.symm hne]
theorem map_sets : ∀ (vs : List Value) {w : World} {b n : Nat} {es : Array MapEntry} (_ : w.heap[b]? = some (.map es n)) {g t : Nat} {cs : Array Value} (_ : Blk w g t cs) (o : Nat), (w.setCells g o vs).heap[b]? = some (.map es n)
  | [], _, _, _, _, h, _, _, _, _, _ => h
  | v :: vs, _, _, _, _, h, _, _, _, hg, o => map_sets vs (map_set h hg o v) (hg.set_ o v) (o + 1)

set_option maxHeartbeats 4000000 in
set_option maxRecDepth 100000 in
theorem lay_any (P Q : PT) (a : Option Addr) (len cap : Nat) (ks : List Int) (w : World) (hbd : 0 ≤ P.1 ∧ P.1 ≤ 31) (hok : ksOk ks = true) (row : Row w a len ks) :
    Calls Tryz.prog 232 #[.agg (pl P).toArray, .agg (pl Q).toArray, .slice a len cap] w fun e w' => e = .returned (.agg (pl (withT P Q ks)).toArray) ∧ Below w.heap.size w w' := by
  have HL := Lib.hid row.1
  have hbig := row.2.1
  have HRow := Lib.hid row
  have HOk := Lib.hid hok
  clear row hok
  have KQ := Lib.hid (blkAt ((Blk.new (w.alloc (.cells (pl P).toArray 52)) 52 (pl Q).toArray).alloc (.cells (pl zT).toArray 52)) (g' := w.heap.size + 1) (by simp))
  go_enter Tryz.func232, Tryz.ntmps232
  go_wp2_with (refine wpList_load_mid rfl 52 (.tmp 4) rfl (w.heap.size + 1) 0 rfl (pl Q) _ (blk_whole KQ.out) Tryz.underlying52 rfl (pl_size Q) ?_)
  refine (layings_ex (pl Q) _).mono ?_
  rintro e w1 ⟨G, GM, rfl, hG, hm, kg, b1⟩
  have hG2 : w.heap.size + 1 + 1 + 1 ≤ G := by simpa using hG
  have KP := Lib.hid ((((Blk.new w 52 (pl P).toArray).alloc (.cells (pl Q).toArray 52)).alloc (.cells (pl zT).toArray 52)).keep b1)
  have KR := Lib.hid (blkAt ((Blk.new ((w.alloc (.cells (pl P).toArray 52)).alloc (.cells (pl Q).toArray 52)) 52 (pl zT).toArray).keep b1) (g' := w.heap.size + 1 + 1) (by simp))
  have HB := Lib.hid (bthen (balloc (balloc (alloc_below _ _) _) _) b1)
  have HM := Lib.hid hm
  have KG := Lib.hid kg
  clear b1 hm kg hG KQ
  go_wp2
  go_loopw [14] (fun i wr => ∃ j : Nat, ∃ P' : PT, j ≤ len ∧ i = .int .i64 j ∧ P' = withT P Q (ks.take j) ∧ (0 ≤ P'.1 ∧ P'.1 ≤ 31) ∧ Blk wr w.heap.size 52 (pl P').toArray ∧ Blk wr (w.heap.size + 1 + 1) 52 (pl zT).toArray ∧ Blk wr G 52 (pl Q).toArray ∧ wr.heap[GM]? = some (.map (laysE G) 5) ∧ Below w.heap.size w wr) (fun i _ => len - (intOf i).toNat)
  case atStart => exact ⟨0, P, by omega, rfl, rfl, hbd, KP.out, KR.out, KG.out, HM.out, HB.out⟩
  case round =>
    clear KP KR HB KG HM hbd
    obtain ⟨j, P', hj, rfl, hP, hbd, hp, hr, hg, hm, hb⟩ := hrel
    have HP := Lib.hid hP
    have KP := Lib.hid hp
    have KR := Lib.hid hr
    have KG := Lib.hid hg
    have HM := Lib.hid hm
    have HB := Lib.hid hb
    clear hP hp hr hg hm hb
    by_cases hlt : j < len
    · obtain ⟨b, off, k, rfl, hv, c0⟩ := row_at6 (row_keep HRow.out HB.out) hlt
      have hj0 : (0 : Int) ≤ (j : Int) := by omega
      have hj1 : (j : Int) < (len : Int) := by omega
      have hk : kOk k = true := List.all_eq_true.1 HOk.out k (List.mem_of_getElem? hv)
      have HK := Lib.hid hk
      have HW1 : Hid (withT P Q (ks.take (j + 1)) = (addK P'.1 k, (layT k P' Q).2)) := Lib.hid (by rw [with_succ hv, ← HP.out]; rfl)
      have HBd := Lib.hid (addK_bound hbd hk)
      have HA := Lib.hid (or_addK hbd hk)
      clear hv HP
      have hget := lays_get HM.out hk
      have hE := cl_enters hk
      have HC := Lib.hid (cl_any hk G P' Q)
      clear hk
      obtain ⟨Fn, hFn⟩ : ∃ Fn, Fn = clOf k := ⟨_, rfl⟩
      obtain ⟨cp, hcp⟩ : ∃ cp, cp = capOf G k := ⟨_, rfl⟩
      rw [← hFn, ← hcp] at hget
      rw [← hFn] at hE
      rw [← hFn, ← hcp] at HC
      clear hFn hcp
      unfold Enters at hE
      go_wp2_with (refine wpList_load_mid rfl 52 (.tmp 3) rfl w.heap.size 0 rfl (pl P') _ (blk_whole KP.out) Tryz.underlying52 rfl (pl_size P') ?_)
      refine (HC.out _ KG.out).mono ?_
      rintro e w3 ⟨rfl, b3⟩
      clear hget hE HC
      obtain ⟨P2, hP2⟩ : ∃ P2, P2 = layT k P' Q := ⟨_, rfl⟩
      have hH : P2.1 = P'.1 := by rw [hP2]; exact layT_has k P' Q
      rw [← hP2] at HW1
      rw [← hP2]
      clear hP2
      replace KP := Lib.hid (Blk.keep KP.out b3)
      replace KR := Lib.hid (Blk.keep KR.out b3)
      replace KG := Lib.hid (Blk.keep KG.out b3)
      replace HM := Lib.hid (map_keep HM.out b3)
      replace HB := Lib.hid (bthen HB.out b3)
      clear b3 c0
      rw [← hH] at HA HW1 HBd
      clear hH hbd
      have HS5 := Lib.hid (splice_all (X := pl P2) (Z := pl P') rfl ▸ blk_setCells (pl P2) KP.out (by simp [pl_len]))
      go_wp2_with (refine wpList_store_mid rfl 52 (.tmp 3) (.tmp 22) rfl w.heap.size 0 (pl P2).toArray rfl rfl (blk_there KP.out (by simp [pl_len])) (pl_size' _) (pl_one _) ?_)
      refine fin (fun W => Blk W w.heap.size 52 (pl P2).toArray ∧ Blk W (w.heap.size + 1 + 1) 52 (pl zT).toArray ∧ Blk W G 52 (pl Q).toArray ∧ W.heap[GM]? = some (.map (laysE G) 5) ∧ Below w.heap.size w W) ⟨HS5.out, blk_setFar _ KR.out (by omega), blk_setFar _ KG.out (by omega), map_sets _ HM.out KP.out 0, below_setCells _ HB.out (Nat.le_refl _)⟩ ?_
      clear KP KR KG HM HB HS5
      rintro W ⟨kp, kr, kg, hm, hb⟩
      have KP := Lib.hid kp
      have KR := Lib.hid kr
      have KG := Lib.hid kg
      have HM := Lib.hid hm
      have HB := Lib.hid hb
      clear kr kg hm hb
      have cp0 : W.cell? ⟨w.heap.size, 0, none⟩ = some (.int .i64 P2.1) := kp.cell 0
      have fp0 : W.frozen? ⟨w.heap.size, 0, none⟩ = false := kp.frozen 0
      clear kp
      have KPs : Hid (∀ v, Blk (W.setCell ⟨w.heap.size, 0, none⟩ (.int .i64 v)) w.heap.size 52 (pl (v, P2.2)).toArray) := Lib.hid (fun v => by have := KP.out.set_ 0 (.int .i64 v); simpa [pl_set] using this)
      go_wp2
      refine wp_region_held_drew (S := fun _ => True) (by kernel_rfl) trivial (fun hHeld => ?_)
      refine tk 0 hHeld ?_
      refine tk 2 hHeld ?_
      refine wpAnyH_ready (rs := [1, 3]) (by kernel_rfl) (by simp) ?_
      refine AllReadyH.cons rfl (fun K hK => ?_) (AllReadyH.cons rfl (fun K hK => ?_) AllReadyH.nil)
      · go_simp
        refine hK.out _ _ trivial (fun hHeld => ?_)
        clear hK K
        refine rd 3 (fun K hK => ?_)
        go_simp
        go_at_call 275
        refine (pbit_any HK.out _).mono ?_
        rintro e w6 ⟨rfl, rfl⟩
        go_wp2_with fail
        refine hK.out _ _ trivial (fun hHeld => ?_)
        clear hK K
        refine tk 4 hHeld ?_
        refine tk 5 hHeld ?_
        refine rd 6 (fun K hK => ?_)
        rw [HA.out]
        go_simp
        refine hK.out _ _ trivial (fun hHeld => ?_)
        clear hK K
        refine wpAnyH_done (by kernel_rfl) ?_ _
        clear hHeld
        refine fin (fun W => Blk W w.heap.size 52 (pl (addK P2.1 k, P2.2)).toArray ∧ Blk W (w.heap.size + 1 + 1) 52 (pl zT).toArray ∧ Blk W G 52 (pl Q).toArray ∧ W.heap[GM]? = some (.map (laysE G) 5) ∧ Below w.heap.size w W) ⟨Blk.drew (KPs.out _), Blk.drew (KR.out.far (p := ⟨w.heap.size, 0, none⟩) (by simp; omega) _), Blk.drew (KG.out.far (p := ⟨w.heap.size, 0, none⟩) (by simp; omega) _), map_set HM.out KP.out 0 _, bdrewn (HB.out.setCell (p := ⟨w.heap.size, 0, none⟩) (Nat.le_refl _) _)⟩ ?_
        clear KP KR KG HM HB KPs cp0 fp0
        rintro W2 ⟨kp, kr, kg, hm, hb⟩
        have KP := Lib.hid kp
        have KR := Lib.hid kr
        have KG := Lib.hid kg
        have HM := Lib.hid hm
        have HB := Lib.hid hb
        clear kp kr kg hm hb
        go_wp2
        go_roundw
        case rel => exact ⟨j + 1, (addK P2.1 k, P2.2), by omega, by go_num, HW1.out.symm, HBd.out, KP.out, KR.out, KG.out, HM.out, HB.out⟩
        case measure => simp [intOf] <;> omega
      · go_simp
        go_at_call 275
        refine (pbit_any HK.out _).mono ?_
        rintro e w6 ⟨rfl, rfl⟩
        go_wp2_with fail
        refine hK.out _ _ trivial (fun hHeld => ?_)
        clear hK K
        refine rd 1 (fun K hK => ?_)
        go_simp
        refine hK.out _ _ trivial (fun hHeld => ?_)
        clear hK K
        refine tk 4 hHeld ?_
        refine tk 5 hHeld ?_
        refine rd 6 (fun K hK => ?_)
        rw [HA.out]
        go_simp
        refine hK.out _ _ trivial (fun hHeld => ?_)
        clear hK K
        refine wpAnyH_done (by kernel_rfl) ?_ _
        clear hHeld
        refine fin (fun W => Blk W w.heap.size 52 (pl (addK P2.1 k, P2.2)).toArray ∧ Blk W (w.heap.size + 1 + 1) 52 (pl zT).toArray ∧ Blk W G 52 (pl Q).toArray ∧ W.heap[GM]? = some (.map (laysE G) 5) ∧ Below w.heap.size w W) ⟨Blk.drew (KPs.out _), Blk.drew (KR.out.far (p := ⟨w.heap.size, 0, none⟩) (by simp; omega) _), Blk.drew (KG.out.far (p := ⟨w.heap.size, 0, none⟩) (by simp; omega) _), map_set HM.out KP.out 0 _, bdrewn (HB.out.setCell (p := ⟨w.heap.size, 0, none⟩) (Nat.le_refl _) _)⟩ ?_
        clear KP KR KG HM HB KPs cp0 fp0
        rintro W2 ⟨kp, kr, kg, hm, hb⟩
        have KP := Lib.hid kp
        have KR := Lib.hid kr
        have KG := Lib.hid kg
        have HM := Lib.hid hm
        have HB := Lib.hid hb
        clear kp kr kg hm hb
        go_wp2
        go_roundw
        case rel => exact ⟨j + 1, (addK P2.1 k, P2.2), by omega, by go_num, HW1.out.symm, HBd.out, KP.out, KR.out, KG.out, HM.out, HB.out⟩
        case measure => simp [intOf] <;> omega
    · obtain rfl : j = len := by omega
      have et : ks.take j = ks := List.take_of_length_le (by rw [HL.out]; exact Nat.le_refl _)
      rw [et] at HP
      clear et hbd
      have HS5 := Lib.hid (splice_all (X := pl P') (Z := pl zT) rfl ▸ blk_setCells (pl P') KR.out (by simp [pl_len]))
      go_wp2_with (first | refine wpList_store_mid rfl 52 (.tmp 6) (.tmp 30) rfl (w.heap.size + 1 + 1) 0 (pl P').toArray rfl rfl (blk_there KR.out (by simp [pl_len])) (pl_size' _) (pl_one _) ?_ | refine wpList_load_mid rfl 52 (.tmp 3) rfl w.heap.size 0 rfl (pl P') _ (blk_whole KP.out) Tryz.underlying52 rfl (pl_size P') ?_)
      refine fin (fun W => Blk W (w.heap.size + 1 + 1) 52 (pl P').toArray ∧ Below w.heap.size w W) ⟨HS5.out, below_setCells _ HB.out (by omega)⟩ ?_
      rintro W ⟨kr, hb⟩
      have hl := run_loadVar_mid W (w.heap.size + 1 + 1) 0 52 (pl P') _ (blk_whole kr) Tryz.underlying52 rfl (pl_size P')
      simp only [Act.put, List.setIfInBounds_toArray, List.set_cons_zero, List.set_cons_succ]
      exact bodyPost_ret (v := .agg (pl P').toArray) (results_cell Tryz.results232 rfl hl) rfl ⟨by rw [HP.out], hb⟩

def prP (N V : Nat → Int) (j : Nat) : Int := mulV (N j) (V j)
def prPE (N V : Nat → Int) (j : Nat) : Int := mulE (N j) (V j)
def prE (N V : Nat → Int) : Int := first3 (prPE N V 0) (prPE N V 1) (prPE N V 2)
def prV (N V : Nat → Int) (j : Nat) : Int := gate (prE N V) (prP N V j)

set_option maxHeartbeats 1000000 in
theorem products_any (N V : Nat → Int) (w : World) :
    Calls Tryz.prog 290 #[.agg #[.int .i64 (N 0), .int .i64 (N 1), .int .i64 (N 2)], .agg #[.int .i64 (V 0), .int .i64 (V 1), .int .i64 (V 2)]] w fun e w' => e = .returned (.tuple #[.agg #[.int .i64 (prV N V 0), .int .i64 (prV N V 1), .int .i64 (prV N V 2)], .int .i64 (prE N V)]) ∧ Below w.heap.size w w' := by
  go_enter Tryz.func290, Tryz.ntmps290
  go_wp2
  go_loopw [10] (fun i wr => ∃ k : Nat, k ≤ 3 ∧ i = .int .i64 k ∧ (∀ j, j < k → prPE N V j = 0) ∧ wr.rowIs (w.heap.size + 3) 48 3 (laidTo (prP N V) k) ∧ Blk wr w.heap.size 48 #[.int .i64 (N 0), .int .i64 (N 1), .int .i64 (N 2)] ∧ Blk wr (w.heap.size + 1) 48 #[.int .i64 (V 0), .int .i64 (V 1), .int .i64 (V 2)] ∧ Blk wr (w.heap.size + 2) 48 #[.int .i64 0, .int .i64 0, .int .i64 0] ∧ Below w.heap.size w wr) (fun i _ => 3 - (intOf i).toNat)
  case atStart => exact ⟨0, by omega, rfl, fun j hj => by omega, rowIs_at (laid_start _ _ _) (by simp), (((Blk.new w _ _).alloc _).alloc _).alloc _, (blkAt (((Blk.new (w.alloc _) _ _).alloc _).alloc _) (by simp)), (blkAt ((Blk.new ((w.alloc _).alloc _) _ _).alloc _) (by simp)), balloc (balloc (balloc (alloc_below _ _) _) _) _⟩
  case round =>
    obtain ⟨k, hk, rfl, hz, hrow, hbn, hbv, hres, hb⟩ := hrel
    have HZ := Lib.hid hz
    have HRow := Lib.hid hrow
    have HN := Lib.hid hbn
    have HV := Lib.hid hbv
    have HRes := Lib.hid hres
    have HB := Lib.hid hb
    clear hz hrow hbn hbv hres hb
    by_cases hlt : k < 3
    · have cx := Blk.atv HN.out hlt
      have cy := Blk.atv HV.out hlt
      obtain ⟨x, hx⟩ : ∃ x, x = N k := ⟨_, rfl⟩
      obtain ⟨y, hy⟩ : ∃ y, y = V k := ⟨_, rfl⟩
      have HD : Hid (prP N V k = mulV x y ∧ prPE N V k = mulE x y) := Lib.hid (by unfold prP prPE; rw [hx, hy]; exact ⟨rfl, rfl⟩)
      rw [← hx] at cx
      rw [← hy] at cy
      clear hx hy
      have hk0 : (0 : Int) ≤ (k : Int) := by omega
      have hk3 : (k : Int) < 3 := by omega
      go_wp2
      go_region_held3 (fun w' => w'.cell? ⟨w.heap.size, k, none⟩ = some (.int .i64 x) ∧ w'.cell? ⟨w.heap.size + 1, k, none⟩ = some (.int .i64 y)) (first | exact ⟨cell_keepD b2 cx, cell_keepD b2 cy⟩ | go_keep)
        (first | (go_at_call 313; refine (mul_any _ _ _).mono ?_; rintro e w2 ⟨rfl, b2⟩))
      have B2 := Lib.hid (bdrew b2)
      clear b2 cx cy
      have HRow2 := Lib.hid (HRow.out.of_block (B2.out.block _ HRow.out.lt))
      have HN2 := Lib.hid (Blk.keep HN.out B2.out)
      have HV2 := Lib.hid (Blk.keep HV.out B2.out)
      have HRes2 := Lib.hid (Blk.keep HRes.out B2.out)
      have HB2 := Lib.hid (bthen HB.out B2.out)
      clear B2 HRow HN HV HRes HB
      by_cases he : mulE x y = 0
      · have HEk := Lib.hid he
        have he' : (mulE x y != 0) = false := by rw [he]; rfl
        clear he
        have rc := HRow2.out.cell (i := k) (by omega)
        have rf := HRow2.out.frozen k
        unfold laidTo at rc
        simp only [Nat.lt_irrefl, if_false] at rc
        go_wp2
        go_roundw
        case rel => exact ⟨k + 1, by omega, by go_num, err_step HZ.out (by rw [HD.out.2]; exact HEk.out), (HRow2.out.set k _).congr (fun i _ => by rw [← HD.out.1]; exact laid_step _ k i), HN2.out.far (by simp; omega) _, HV2.out.far (by simp) _, HRes2.out.far (by simp) _, HB2.out.setCell (by simp; omega) _⟩
        case measure => simp [intOf]; omega
      · have HEk := Lib.hid he
        have he' : (mulE x y != 0) = true := by simpa using he
        clear he
        obtain ⟨z0, z1, z2, g0, g1, g2⟩ := blk3 HRes2.out
        go_wp2
        have e1 : prE N V = mulE x y := by
          rw [← HD.out.2]
          exact first3_at (e := prPE N V) hlt HZ.out (by rw [HD.out.2]; exact HEk.out)
        have e2 : ∀ j, prV N V j = 0 := fun j => by unfold prV gate; rw [e1, if_neg HEk.out]
        exact bodyPost_ret (v := .tuple #[.agg #[.int .i64 0, .int .i64 0, .int .i64 0], .int .i64 (mulE x y)]) (by simp [results, Tryz.results290, go_sem, z0, z1, z2]) rfl ⟨by rw [e1, e2, e2, e2], bset3 HB2.out (by omega)⟩
    · obtain rfl : k = 3 := by omega
      have e1 : prE N V = 0 := first3_none (e := prPE N V) HZ.out
      have HE := Lib.hid e1
      clear e1
      have o0 : wr.cell? ⟨w.heap.size + 3, 0, none⟩ = some (.int .i64 (prP N V 0)) := HRow.out.cell (i := 0) (by omega)
      have o1 : wr.cell? ⟨w.heap.size + 3, 1, none⟩ = some (.int .i64 (prP N V 1)) := HRow.out.cell (i := 1) (by omega)
      have o2 : wr.cell? ⟨w.heap.size + 3, 2, none⟩ = some (.int .i64 (prP N V 2)) := HRow.out.cell (i := 2) (by omega)
      obtain ⟨z0, z1, z2, g0, g1, g2⟩ := blk3 HRes.out
      go_wp2
      have e2 : ∀ j, prV N V j = prP N V j := fun j => by unfold prV; rw [HE.out]; rfl
      exact bodyPost_ret (v := .tuple #[.agg #[.int .i64 (prP N V 0), .int .i64 (prP N V 1), .int .i64 (prP N V 2)], .int .i64 0]) (by simp [results, Tryz.results290, go_sem, z0, z1, z2]) rfl ⟨by rw [HE.out, e2, e2, e2], bset3 HB.out (by omega)⟩

set_option maxHeartbeats 1000000 in
theorem total_any (x y z t : Int) (w : World) :
    Calls Tryz.prog 291 #[.agg #[.int .i64 x, .int .i64 y, .int .i64 z], .int .i64 t] w fun e w' => e = .returned (.tuple #[.int .i64 (addV [x, y, z, t]), .int .i64 (addE [x, y, z, t])]) ∧ Below w.heap.size w w' := by
  go_enter Tryz.func291, Tryz.ntmps291
  go_wp2_with fail
  refine (add_any _ _ _ [x, y, z, t] _ (row4 (P := fun j => [x, y, z, t].getD j 0) (blkAt (Blk.new _ _ _) (by simp)))).mono ?_
  rintro e w1 ⟨rfl, b1⟩
  go_wp2
  go_ret2
  exact ⟨rfl, bthen (balloc (alloc_below _ _) _) b1⟩

def spM (M : Nat → Int) (r k : Nat) : Int := M (4 * r + k)

set_option maxHeartbeats 2000000 in
theorem split_any (M : Nat → Int) (r : Nat) (w : World) (hr : r < 3) :
    Calls Tryz.prog 264 #[.agg #[.int .i64 (M 0), .int .i64 (M 1), .int .i64 (M 2), .int .i64 (M 3), .int .i64 (M 4), .int .i64 (M 5), .int .i64 (M 6), .int .i64 (M 7), .int .i64 (M 8), .int .i64 (M 9), .int .i64 (M 10), .int .i64 (M 11)], .int .i64 r] w fun e w' => e = .returned (.agg #[.int .i64 (spM M r 0), .int .i64 (spM M r 1), .int .i64 (spM M r 2), .int .i64 (spM M r 3)]) ∧ Below w.heap.size w w' := by
  obtain ⟨n0, hn0⟩ : ∃ n, n = 4 * r := ⟨_, rfl⟩
  obtain ⟨n1, hn1⟩ : ∃ n, n = 4 * r + 1 := ⟨_, rfl⟩
  obtain ⟨n2, hn2⟩ : ∃ n, n = 4 * r + 2 := ⟨_, rfl⟩
  obtain ⟨n3, hn3⟩ : ∃ n, n = 4 * r + 3 := ⟨_, rfl⟩
  have hw0 : IntKind.i64.wrap (4 * (r : Int)) = (n0 : Int) := by rw [show 4 * (r : Int) = (n0 : Int) by omega]; exact IntWalk.i64_in _ (by omega)
  have hw1 : IntKind.i64.wrap ((n0 : Int) + 1) = (n1 : Int) := by rw [show (n0 : Int) + 1 = (n1 : Int) by omega]; exact IntWalk.i64_in _ (by omega)
  have hw2 : IntKind.i64.wrap ((n0 : Int) + 2) = (n2 : Int) := by rw [show (n0 : Int) + 2 = (n2 : Int) by omega]; exact IntWalk.i64_in _ (by omega)
  have hw3 : IntKind.i64.wrap ((n0 : Int) + 3) = (n3 : Int) := by rw [show (n0 : Int) + 3 = (n3 : Int) by omega]; exact IntWalk.i64_in _ (by omega)
  have K := fun o => (Blk.new w 46 #[.int .i64 (M 0), .int .i64 (M 1), .int .i64 (M 2), .int .i64 (M 3), .int .i64 (M 4), .int .i64 (M 5), .int .i64 (M 6), .int .i64 (M 7), .int .i64 (M 8), .int .i64 (M 9), .int .i64 (M 10), .int .i64 (M 11)]).alloc o
  have c0 := fun o => Blk.at12 (K o) (k := n0) (by omega)
  have c1 := fun o => Blk.at12 (K o) (k := n1) (by omega)
  have c2 := fun o => Blk.at12 (K o) (k := n2) (by omega)
  have c3 := fun o => Blk.at12 (K o) (k := n3) (by omega)
  obtain ⟨x, hx⟩ : ∃ x, x = M n0 := ⟨_, rfl⟩
  obtain ⟨y, hy⟩ : ∃ y, y = M n1 := ⟨_, rfl⟩
  obtain ⟨z, hz⟩ : ∃ z, z = M n2 := ⟨_, rfl⟩
  obtain ⟨l, hl⟩ : ∃ l, l = M n3 := ⟨_, rfl⟩
  have HD : Hid (spM M r 0 = x ∧ spM M r 1 = y ∧ spM M r 2 = z ∧ spM M r 3 = l) := Lib.hid (by unfold spM; rw [hx, hy, hz, hl, hn0, hn1, hn2, hn3]; exact ⟨rfl, rfl, rfl, rfl⟩)
  rw [← hx] at c0
  rw [← hy] at c1
  rw [← hz] at c2
  rw [← hl] at c3
  have b00 : (0 : Int) ≤ (n0 : Int) := by omega
  have b01 : (n0 : Int) < 12 := by omega
  have b10 : (0 : Int) ≤ (n1 : Int) := by omega
  have b11 : (n1 : Int) < 12 := by omega
  have b20 : (0 : Int) ≤ (n2 : Int) := by omega
  have b21 : (n2 : Int) < 12 := by omega
  have b30 : (0 : Int) ≤ (n3 : Int) := by omega
  have b31 : (n3 : Int) < 12 := by omega
  have hr0 : (0 : Int) ≤ (r : Int) := by omega
  have HC := Lib.hid (fun o => And.intro (c0 o) (And.intro (c1 o) (And.intro (c2 o) (c3 o))))
  clear hx hy hz hl hn0 hn1 hn2 hn3 K c0 c1 c2 c3
  go_enter Tryz.func264, Tryz.ntmps264
  go_wp2
  go_region_held3 (fun w' => w'.cell? ⟨w.heap.size, n0, none⟩ = some (.int .i64 x) ∧ w'.cell? ⟨w.heap.size, n1, none⟩ = some (.int .i64 y) ∧ w'.cell? ⟨w.heap.size, n2, none⟩ = some (.int .i64 z) ∧ w'.cell? ⟨w.heap.size, n3, none⟩ = some (.int .i64 l)) (first | exact HC.out _)
    (first | fail)
  go_wp2
  exact bodyPost_ret (v := .agg #[.int .i64 x, .int .i64 y, .int .i64 z, .int .i64 l]) (by simp [results, Tryz.results264, go_sem]) rfl ⟨by rw [HD.out.1, HD.out.2.1, HD.out.2.2.1, HD.out.2.2.2], bdrewn (balloc (alloc_below _ _) _)⟩

end Go.Proofs.YthhfcedhbfandaaGreat
