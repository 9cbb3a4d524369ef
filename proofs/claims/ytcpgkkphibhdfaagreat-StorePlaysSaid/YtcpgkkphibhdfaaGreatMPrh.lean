/-
  2 texts in one file, each with its own heading.
-/
import Derived.Test.YtcpgkkphibhdfaaGreatPrtG
import Derived.Deep.QuietTactic
import Derived.Maps.AppendAt
/-
  Sets of kinds, bit by bit: plain arithmetic; parts as those that a set picks; With and Without, bit by bit.
-/
namespace Go.Proofs.YtcpgkkphibhdfaaGreat
open Go.RowKit

/-! finite tables -/
theorem or_tab : (List.range 32).all (fun s => (List.range 5).all fun k => decide (bits .or .i64 (s : Int) ((2 : Int) ^ k) = addK s k)) = true := by kernel_rfl
theorem and_tab : (List.range 32).all (fun s => (List.range 32).all fun a => decide ((bits .and .i64 (s : Int) (a : Int) == (a : Int)) = (List.range 5).all fun j => !hasN a j || hasN s j)) = true := by kernel_rfl
theorem one_tab : (List.range 32).all (fun s => (List.range 5).all fun k => decide ((bits .and .i64 (s : Int) ((2 : Int) ^ k) != 0) = hasN s k)) = true := by kernel_rfl
theorem not_tab : (List.range 32).all (fun s => (List.range 32).all fun a => decide (0 ≤ bits .andNot .i64 (s : Int) (a : Int) ∧ bits .andNot .i64 (s : Int) (a : Int) ≤ 31) && (List.range 5).all fun j => decide (hasN (bits .andNot .i64 (s : Int) (a : Int)) j = (hasN s j && !hasN a j))) = true := by kernel_rfl
theorem add_tab : (List.range 32).all (fun s => (List.range 5).all fun k => (List.range 5).all fun j => decide (hasN (addK (s : Int) (k : Int)) j = (hasN s j || (k == j)))) = true := by kernel_rfl
theorem sub_tab : (List.range 32).all (fun s => (List.range 5).all fun k => (List.range 5).all fun j => decide (hasN (subK (s : Int) (k : Int)) j = (hasN s j && !(k == j)))) = true := by kernel_rfl
theorem ext_tab : (List.range 32).all (fun s => (List.range 32).all fun t => !((List.range 5).all fun j => hasN (s : Int) j == hasN (t : Int) j) || s == t) = true := by kernel_rfl
theorem tab {n : Nat} {f : Nat → Bool} (h : (List.range n).all f = true) {k : Nat} (hk : k < n) : f k = true := List.all_eq_true.1 h k (List.mem_range.2 hk)

theorem nat_of {s : Int} (h : 0 ≤ s ∧ s ≤ 31) : ∃ n : Nat, s = (n : Int) ∧ n < 32 := ⟨s.toNat, by omega, by omega⟩
theorem kind_of {k : Int} (h : kOk k = true) : ∃ n : Nat, k = (n : Int) ∧ n < 5 := ⟨k.toNat, by rcases kOk_cases h with rfl | rfl | rfl | rfl | rfl <;> rfl, by rcases kOk_cases h with rfl | rfl | rfl | rfl | rfl <;> decide⟩
theorem or_addK {s k : Int} (hs : 0 ≤ s ∧ s ≤ 31) (hk : kOk k = true) : bits .or .i64 s (2 ^ k.toNat) = addK s k := by
  obtain ⟨n, rfl, hn⟩ := nat_of hs
  obtain ⟨m, rfl, hm⟩ := kind_of hk
  exact of_decide_eq_true (tab (tab or_tab hn) hm)
theorem add_has {s k : Int} (hs : 0 ≤ s ∧ s ≤ 31) (hk : kOk k = true) {j : Nat} (hj : j < 5) : hasN (addK s k) j = (hasN s j || (k == (j : Int))) := by
  obtain ⟨n, rfl, hn⟩ := nat_of hs
  obtain ⟨m, rfl, hm⟩ := kind_of hk
  have := of_decide_eq_true (tab (tab (tab add_tab hn) hm) hj)
  rw [this]
  congr 1
  rw [Bool.eq_iff_iff]; simp; omega
theorem sub_has {s k : Int} (hs : 0 ≤ s ∧ s ≤ 31) (hk : kOk k = true) {j : Nat} (hj : j < 5) : hasN (subK s k) j = (hasN s j && !(k == (j : Int))) := by
  obtain ⟨n, rfl, hn⟩ := nat_of hs
  obtain ⟨m, rfl, hm⟩ := kind_of hk
  have := of_decide_eq_true (tab (tab (tab sub_tab hn) hm) hj)
  rw [this]
  congr 2
  rw [Bool.eq_iff_iff]; simp; omega
theorem not_has {s a : Int} (hs : 0 ≤ s ∧ s ≤ 31) (ha : 0 ≤ a ∧ a ≤ 31) {j : Nat} (hj : j < 5) : hasN (bits .andNot .i64 s a) j = (hasN s j && !hasN a j) := by
  obtain ⟨n, rfl, hn⟩ := nat_of hs
  obtain ⟨m, rfl, hm⟩ := nat_of ha
  have := tab (tab not_tab hn) hm
  rw [Bool.and_eq_true] at this
  exact of_decide_eq_true (tab this.2 hj)
theorem not_bound {s a : Int} (hs : 0 ≤ s ∧ s ≤ 31) (ha : 0 ≤ a ∧ a ≤ 31) : 0 ≤ bits .andNot .i64 s a ∧ bits .andNot .i64 s a ≤ 31 := by
  obtain ⟨n, rfl, hn⟩ := nat_of hs
  obtain ⟨m, rfl, hm⟩ := nat_of ha
  have := tab (tab not_tab hn) hm
  rw [Bool.and_eq_true] at this
  exact of_decide_eq_true this.1
theorem set_ext {s t : Int} (hs : 0 ≤ s ∧ s ≤ 31) (ht : 0 ≤ t ∧ t ≤ 31) (h : ∀ j, j < 5 → hasN s j = hasN t j) : s = t := by
  obtain ⟨n, rfl, hn⟩ := nat_of hs
  obtain ⟨m, rfl, hm⟩ := nat_of ht
  have := tab (tab ext_tab hn) hm
  rw [show ((List.range 5).all fun j => hasN (n : Int) j == hasN (m : Int) j) = true from List.all_eq_true.2 (fun j hj => by simpa using h j (List.mem_range.1 hj))] at this
  have : n = m := by simpa using this
  rw [this]
/-- only the last five bits are asked -/
theorem has_mod (s : Int) {j : Nat} (hj : j < 5) : hasN (s % 32) j = hasN s j := by
  unfold hasN
  congr 1
  obtain rfl | rfl | rfl | rfl | rfl : j = 0 ∨ j = 1 ∨ j = 2 ∨ j = 3 ∨ j = 4 := by omega
  · show (s % 32 / 1 % 2 = 1) = (s / 1 % 2 = 1); rw [eq_iff_iff]; omega
  · show (s % 32 / 2 % 2 = 1) = (s / 2 % 2 = 1); rw [eq_iff_iff]; omega
  · show (s % 32 / 4 % 2 = 1) = (s / 4 % 2 = 1); rw [eq_iff_iff]; omega
  · show (s % 32 / 8 % 2 = 1) = (s / 8 % 2 = 1); rw [eq_iff_iff]; omega
  · show (s % 32 / 16 % 2 = 1) = (s / 16 % 2 = 1); rw [eq_iff_iff]; omega
theorem and_mod (s : Int) {a : Int} (ha : 0 ≤ a ∧ a ≤ 31) : bits .and .i64 s a = bits .and .i64 (s % 32) a := by
  obtain ⟨m, rfl, hm⟩ := nat_of ha
  have h2 : (BitVec.ofInt 64 (m : Int)).toNat = m := by
    rw [BitVec.ofInt_natCast, BitVec.toNat_ofNat]; exact Nat.mod_eq_of_lt (by omega)
  show IntKind.i64.wrap ((BitVec.ofInt 64 s &&& BitVec.ofInt 64 (m : Int)).toNat : Int) = IntKind.i64.wrap ((BitVec.ofInt 64 (s % 32) &&& BitVec.ofInt 64 (m : Int)).toNat : Int)
  rw [BitVec.toNat_and, BitVec.toNat_and, h2, ofInt_nat, ofInt_nat]
  have hk : ∀ x : Nat, x &&& m = (x % 32) &&& m := fun x => by
    have e : 31 &&& m = m := by rw [Nat.and_comm, show (31 : Nat) = 2 ^ 5 - 1 by decide, Nat.and_two_pow_sub_one_eq_mod]; exact Nat.mod_eq_of_lt hm
    have e2 : x % 32 = x &&& 31 := by rw [show (31 : Nat) = 2 ^ 5 - 1 by decide, Nat.and_two_pow_sub_one_eq_mod]
    rw [e2, Nat.and_assoc, e]
  rw [hk]
  congr 3
  omega
theorem and_one (s : Int) {k : Int} (hk : kOk k = true) : (bits .and .i64 s (2 ^ k.toNat) != 0) = hasB s k := by
  obtain ⟨m, rfl, hm⟩ := kind_of hk
  rw [has_yes (by omega), Int.toNat_natCast]
  have hb : (0 : Int) ≤ 2 ^ m ∧ (2 : Int) ^ m ≤ 31 := by
    obtain rfl | rfl | rfl | rfl | rfl : m = 0 ∨ m = 1 ∨ m = 2 ∨ m = 3 ∨ m = 4 := by omega
    all_goals decide
  rw [and_mod s hb, ← has_mod s hm]
  obtain ⟨n, e, hn⟩ := nat_of (s := s % 32) (by omega)
  rw [e]
  exact of_decide_eq_true (tab (tab one_tab hn) hm)

/-! folds -/
theorem fold_add : ∀ (ks : List Int) (s : Int), 0 ≤ s ∧ s ≤ 31 → ksOk ks = true → ∀ {j : Nat}, j < 5 → hasN (ks.foldl addK s) j = (hasN s j || ks.any (· == (j : Int)))
  | [], s, _, _, j, _ => by simp
  | k :: r, s, hs, h, j, hj => by
    unfold ksOk at h
    rw [List.all_cons, Bool.and_eq_true] at h
    rw [List.foldl_cons, fold_add r _ (addK_bound hs h.1) h.2 hj, add_has hs h.1 hj, List.any_cons, Bool.or_assoc]
theorem sub_bound : ∀ (ks : List Int) (s : Int), 0 ≤ s ∧ s ≤ 31 → 0 ≤ ks.foldl subK s ∧ ks.foldl subK s ≤ 31
  | [], _, hs => hs
  | k :: r, s, hs => sub_bound r (subK s k) (subK_bound hs)
theorem fold_sub : ∀ (ks : List Int) (s : Int), 0 ≤ s ∧ s ≤ 31 → ksOk ks = true → ∀ {j : Nat}, j < 5 → hasN (ks.foldl subK s) j = (hasN s j && !ks.any (· == (j : Int)))
  | [], s, _, _, j, _ => by simp
  | k :: r, s, hs, h, j, hj => by
    unfold ksOk at h
    rw [List.all_cons, Bool.and_eq_true] at h
    rw [List.foldl_cons, fold_sub r _ (subK_bound hs) h.2 hj, sub_has hs h.1 hj, List.any_cons, Bool.not_or, Bool.and_assoc]
theorem has0 (j : Nat) : hasN 0 j = false := by unfold hasN; simp
theorem ksS_bound {ks : List Int} (h : ksOk ks = true) : 0 ≤ ksS ks ∧ ksS ks ≤ 31 := ks_bound ks 0 (by omega) h
theorem ksS_has {ks : List Int} (h : ksOk ks = true) {j : Nat} (hj : j < 5) : hasN (ksS ks) j = ks.any (· == (j : Int)) := by
  unfold ksS
  rw [fold_add ks 0 (by omega) h hj, has0, Bool.false_or]
/-- what Has answers, as the program reckons it -/
theorem hasAll_and (s : Int) (ks : List Int) (h : ksOk ks = true) : (bits .and .i64 s (ksS ks) == ksS ks) = hasAll s ks := by
  have hb := ksS_bound h
  rw [and_mod s hb]
  obtain ⟨n, e, hn⟩ := nat_of (s := s % 32) (by omega)
  obtain ⟨m, e2, hm⟩ := nat_of hb
  have t := of_decide_eq_true (tab (tab and_tab hn) hm)
  rw [e, e2, t, Bool.eq_iff_iff, List.all_eq_true]
  unfold hasAll
  rw [List.all_eq_true]
  constructor
  · intro hall k hk
    have hok : kOk k = true := List.all_eq_true.1 h k hk
    obtain ⟨j, rfl, hj⟩ := kind_of hok
    have := hall j (List.mem_range.2 hj)
    rw [← e2, ksS_has h hj, show (ks.any (· == (j : Int))) = true from List.any_eq_true.2 ⟨_, hk, by simp⟩, ← e, has_mod s hj] at this
    rw [has_yes (by omega)]
    simpa using this
  · intro hall j hj
    have hj := List.mem_range.1 hj
    rw [← e2, ksS_has h hj, ← e, has_mod s hj]
    by_cases c : (ks.any (· == (j : Int))) = true
    · obtain ⟨k, hk, e3⟩ := List.any_eq_true.1 c
      have e3 : k = (j : Int) := by simpa using e3
      subst e3
      have := hall _ hk
      rw [has_yes (by omega)] at this
      rw [this]; simp
    · rw [Bool.eq_false_iff.2 c]; rfl
theorem hasAll_no {s : Int} {ks : List Int} (h : ksOk ks = false) : hasAll s ks = false := by
  unfold ksOk at h
  obtain ⟨k, hk, hn⟩ := List.all_eq_false.1 h
  unfold hasAll
  refine List.all_eq_false.2 ⟨k, hk, ?_⟩
  intro c
  exact hn (has_kOk c)

/-! the kinds of a set, and what they pick -/
def kindsL (s : Int) : List Int := ([0, 1, 2, 3, 4] : List Int).filter (hasB s)
/-- the first j of them -/
def kindsTo (s : Int) (j : Nat) : List Int := ((List.range j).map (fun k : Nat => (k : Int))).filter (hasB s)
theorem kindsTo_all (s : Int) : kindsTo s 5 = kindsL s := rfl
theorem kindsTo_yes {s : Int} {j : Nat} (h : hasB s (j : Int) = true) : kindsTo s (j + 1) = kindsTo s j ++ [(j : Int)] := by
  unfold kindsTo
  rw [List.range_succ, List.map_append, List.filter_append]
  simp [h]
theorem kindsTo_no {s : Int} {j : Nat} (h : hasB s (j : Int) = false) : kindsTo s (j + 1) = kindsTo s j := by
  unfold kindsTo
  rw [List.range_succ, List.map_append, List.filter_append]
  simp [h]
theorem kindsTo_len (s : Int) (j : Nat) : (kindsTo s j).length ≤ j := by
  unfold kindsTo
  refine Nat.le_trans (List.length_filter_le _ _) ?_
  simp
theorem kindsL_ok (s : Int) : ksOk (kindsL s) = true := by
  unfold ksOk
  refine List.all_eq_true.2 (fun k hk => ?_)
  unfold kindsL at hk
  exact has_kOk (List.mem_filter.1 hk).2
def pickT (s : Int) (P : PT) : PT := (s % 32, (if hasN s 0 then P.2.1 else zI), (if hasN s 1 then P.2.2.1 else 0), (if hasN s 1 then P.2.2.2.1 else zI), (if hasN s 2 then P.2.2.2.2.1 else 0), (if hasN s 2 then P.2.2.2.2.2.1 else 0), (if hasN s 2 then P.2.2.2.2.2.2.1 else false), (if hasN s 3 then P.2.2.2.2.2.2.2 else 0))
theorem with_pick (s : Int) (P : PT) : withT zT P (kindsL s) = pickT s P := by
  have h0 : hasB s 0 = hasN s 0 := has_yes (k := 0) (by omega)
  have h1 : hasB s 1 = hasN s 1 := has_yes (k := 1) (by omega)
  have h2 : hasB s 2 = hasN s 2 := has_yes (k := 2) (by omega)
  have h3 : hasB s 3 = hasN s 3 := has_yes (k := 3) (by omega)
  have h4 : hasB s 4 = hasN s 4 := has_yes (k := 4) (by omega)
  have hs : s % 32 = (if hasN s 0 then 1 else 0) + (if hasN s 1 then 2 else 0) + (if hasN s 2 then 4 else 0) + (if hasN s 3 then 8 else 0) + (if hasN s 4 then 16 else 0) := by
    have e0 : hasN s 0 = decide (s % 2 = 1) := by unfold hasN; simp
    have e1 : hasN s 1 = decide (s / 2 % 2 = 1) := by unfold hasN; simp
    have e2 : hasN s 2 = decide (s / 4 % 2 = 1) := by unfold hasN; simp
    have e3 : hasN s 3 = decide (s / 8 % 2 = 1) := by unfold hasN; simp
    have e4 : hasN s 4 = decide (s / 16 % 2 = 1) := by unfold hasN; simp
    rw [e0, e1, e2, e3, e4]
    simp only [decide_eq_true_eq]
    omega
  unfold pickT
  rw [hs]
  unfold kindsL
  simp only [List.filter_cons, List.filter_nil, h0, h1, h2, h3, h4]
  clear h0 h1 h2 h3 h4 hs
  generalize hasN s 0 = a0
  generalize hasN s 1 = a1
  generalize hasN s 2 = a2
  generalize hasN s 3 = a3
  generalize hasN s 4 = a4
  cases a0 <;> cases a1 <;> cases a2 <;> cases a3 <;> cases a4 <;> rfl

/-! which parts may be -/
def eqT (P Q : PT) : Bool := eqP P.1 P.2.1 P.2.2.1 P.2.2.2.1 P.2.2.2.2.1 P.2.2.2.2.2.1 P.2.2.2.2.2.2.1 P.2.2.2.2.2.2.2 Q.1 Q.2.1 Q.2.2.1 Q.2.2.2.1 Q.2.2.2.2.1 Q.2.2.2.2.2.1 Q.2.2.2.2.2.2.1 Q.2.2.2.2.2.2.2
def bareB (P : PT) : Bool := eqT (pickT P.1 P) P
def valB (P : PT) : Bool := restB P.2.1 P.2.2.1 P.2.2.2.1 P.2.2.2.2.1 P.2.2.2.2.2.1 P.2.2.2.2.2.2.2
theorem bare_kinds (P : PT) : bareB P = (decide (0 ≤ P.1) && decide (P.1 ≤ 31) && kindsB P.1 P.2.1 P.2.2.1 P.2.2.2.1 P.2.2.2.2.1 P.2.2.2.2.2.1 P.2.2.2.2.2.2.1 P.2.2.2.2.2.2.2) := by
  obtain ⟨h, M, m, B, p, a, c, l⟩ := P
  unfold bareB eqT pickT eqP kindsB kindB zkB
  simp only []
  have e : (h % 32 == h) = (decide (0 ≤ h) && decide (h ≤ 31)) := by
    rw [Bool.eq_iff_iff]; simp; omega
  rw [e]
  have m12 := eq12_self M
  have b6 := eq6_self B
  cases hasN h 0 <;> cases hasN h 1 <;> cases hasN h 2 <;> cases hasN h 3 <;> simp [m12, b6, Bool.and_assoc]
theorem right_split (P : PT) : rightT P = (valB P && bareB P) := by
  rw [bare_kinds, Bool.and_comm]
  rfl
theorem eqT_self (P : PT) : eqT P P = true := by
  unfold eqT eqP
  simp [eq12_self, eq6_self]
end Go.Proofs.YtcpgkkphibhdfaaGreat
/-
  What the program's bit, within, Of, Kinds and Has of layer 6 answer.
-/
namespace Go.Proofs.YtcpgkkphibhdfaaGreat
open Go.RowKit

set_option maxHeartbeats 400000 in
set_option maxRecDepth 100000 in
theorem pbit_any {k : Int} (hk : kOk k = true) (w : World) :
    Calls Tryz.prog 130 #[.int .i64 k] w fun e w' => e = .returned (.int .i64 (2 ^ k.toNat)) ∧ w = w' := by
  rcases kOk_cases hk with rfl | rfl | rfl | rfl | rfl
  all_goals
    clear hk
    go_enter Tryz.func130, Tryz.ntmps130
    go_wp2
    go_ret
    exact ⟨rfl, rfl⟩

set_option maxHeartbeats 400000 in
set_option maxRecDepth 100000 in
theorem pin_b (n m : Int) (w : World) :
    Calls Tryz.prog 102 #[.int .i64 n, .int .i64 m] w fun e w' => e = .returned (.bool (inB n m)) ∧ w = w' := by
  unfold inB
  by_cases h1 : 0 ≤ n
  · have g1 : decide (0 ≤ n) = true := by simpa using h1
    go_enter Tryz.func102, Tryz.ntmps102
    go_wp2
    go_ret
    exact ⟨by rw [g1]; rfl, rfl⟩
  · have g1 : decide (0 ≤ n) = false := by simpa using h1
    go_enter Tryz.func102, Tryz.ntmps102
    go_wp2
    go_ret
    exact ⟨rfl, rfl⟩
theorem pin_bb {n m : Int} {b : Bool} (h : inB n m = b) (w : World) :
    Calls Tryz.prog 102 #[.int .i64 n, .int .i64 m] w fun e w' => e = .returned (.bool b) ∧ w = w' := (pin_b n m w).mono fun _ _ ⟨he, hw⟩ => ⟨by rw [he, h], hw⟩

set_option maxHeartbeats 1000000 in
set_option maxRecDepth 100000 in
theorem pof_any (a : Option Addr) (len cap : Nat) (ks : List Int) (w : World) (row : Row w a len ks) :
    Calls Tryz.prog 90 #[.slice a len cap] w fun e w' => e = .returned (.tuple #[.int .i64 (ksV ks), .int .i64 (ksE ks)]) ∧ w = w' := by
  have HL := Lib.hid row.1
  have hbig := row.2.1
  have HRow := Lib.hid row
  clear row
  go_enter Tryz.func90, Tryz.ntmps90
  go_wp2
  go_loopw [4, 9] (fun v i wr => ∃ j : Nat, j ≤ len ∧ i = .int .i64 j ∧ v = .int .i64 (ksS (ks.take j)) ∧ ksOk (ks.take j) = true ∧ wr = w) (fun _ i _ => len - (intOf i).toNat)
  case atStart => exact ⟨0, by omega, rfl, rfl, rfl, rfl⟩
  case round =>
    obtain ⟨j, hj, rfl, rfl, hz, rfl⟩ := hrel
    have HZ := Lib.hid hz
    have hsb := ks_bound (ks.take j) 0 (by omega) hz
    clear hz
    by_cases hlt : j < len
    · obtain ⟨b, off, k, rfl, hv, c0⟩ := row_at6 HRow.out hlt
      have HV := Lib.hid hv
      have HSucc := Lib.hid (ks_succ hv)
      clear hv
      have hj0 : (0 : Int) ≤ (j : Int) := by omega
      have hj1 : (j : Int) < (len : Int) := by omega
      obtain ⟨s, hs⟩ : ∃ s, s = ksS (ks.take j) := ⟨_, rfl⟩
      rw [show (ks.take j).foldl addK 0 = s from hs.symm] at hsb
      rw [← hs] at HSucc
      rw [← hs]
      clear hs
      by_cases h : k < 0
      · have hno := ksOk_bad HV.out (by unfold kOk; simp; omega)
        have HNo := Lib.hid hno
        clear hno
        go_wp2
        go_ret2
        exact ⟨by unfold ksV ksE; rw [HNo.out]; rfl, rfl⟩
      · by_cases h5 : 5 ≤ k
        · have hno := ksOk_bad HV.out (by unfold kOk; simp; omega)
          have HNo := Lib.hid hno
          clear hno
          go_wp2
          go_ret2
          exact ⟨by unfold ksV ksE; rw [HNo.out]; rfl, rfl⟩
        · have hk : kOk k = true := by unfold kOk; simp; omega
          have HOk := Lib.hid (ksOk_succ HV.out HZ.out hk)
          have HK := Lib.hid hk
          have HO := Lib.hid (or_addK hsb hk)
          clear hk hsb
          go_wp2_with fail
          refine (pbit_any HK.out _).mono ?_
          rintro e w1 ⟨rfl, rfl⟩
          obtain ⟨t, ht⟩ : ∃ t, t = (2 : Int) ^ k.toNat := ⟨_, rfl⟩
          rw [← ht] at HO
          rw [← ht]
          clear ht
          go_wp2
          go_roundw
          case rel => exact ⟨j + 1, by omega, by go_num, by rw [HSucc.out, ← HO.out], HOk.out, by trivial⟩
          case measure => simp [intOf] <;> omega
    · obtain rfl : j = len := by omega
      have et : ks.take j = ks := List.take_of_length_le (by rw [HL.out]; exact Nat.le_refl _)
      rw [et] at HZ
      rw [et]
      clear et hsb
      go_wp2
      go_ret2
      exact ⟨by unfold ksV ksE; rw [HZ.out]; rfl, rfl⟩

theorem kind_info : (Tryz.prog.info? 67).map (fun i => (i.zero, i.size, i.bytes)) = some (some (.int .i64 0), 1, 8) := by kernel_rfl
/-- kinds that the call itself appends -/
def OwnK (w : World) (base : Nat) (v : Value) (n : Nat) (zs : List Int) : Prop := w.ownsRow base 67 1 v n (zs.map (Value.int .i64))
theorem OwnK.nil (w : World) (base : Nat) : OwnK w base (.slice none 0 0) 0 [] := World.ownsRow_nil _ _ _ _
theorem OwnK.row {w : World} {base : Nat} {v : Value} {n : Nat} {zs : List Int} (h : OwnK w base v n zs) : ∃ a cap, v = .slice a n cap ∧ Row w a n zs := by
  have hl : zs.length = n := by simpa using h.1
  rcases h.2 with ⟨rfl, rfl⟩ | ⟨g, cap, cur, rfl, hb, hh, hnc, hm, hs, ht⟩
  · exact ⟨none, 0, rfl, hl, by omega, Or.inl rfl⟩
  · unfold maxLen at hm
    refine ⟨_, cap, rfl, hl, by omega, Or.inr ⟨g, 0, rfl, fun i hi => ?_⟩⟩
    rw [Nat.zero_add]
    have hi' : i < (zs.map (Value.int .i64)).length := by rw [List.length_map]; omega
    have hc := World.ownsRow.cellAt (j := i) h (by omega)
    rw [hc]
    simp [List.getD, List.getElem?_eq_getElem (show i < zs.length by omega)]
theorem grownK_below {w0 wr w' : World} {base B : Nat} {v : Value} {n : Nat} {zs : List Int} {o : Obj} (ho : OwnK wr base v n zs) (hB : B ≤ base) (hb : Below B w0 wr) (hs : B ≤ wr.heap.size) (hg : (wr.alloc o).grownBy w' v.ownBlock) : Below B w0 w' :=
  (hb.alloc hs o).grown hg (by simp; omega) (fun k hk => by have := World.ownsRow.lt ho k hk; omega)

set_option maxHeartbeats 1000000 in
set_option maxRecDepth 100000 in
theorem pkinds_any (s : Int) (w : World) :
    Calls Tryz.prog 131 #[.int .i64 s] w fun e w' => ∃ a cap, e = .returned (.slice a (kindsL s).length cap) ∧ Row w' a (kindsL s).length (kindsL s) ∧ Below w.heap.size w w' := by
  obtain ⟨i0, hi0, hz0, hz1, hz2⟩ := info_parts kind_info
  have HI := Lib.hid (And.intro hi0 (And.intro hz0 (And.intro hz1 hz2)))
  clear hi0 hz0 hz1 hz2
  go_enter Tryz.func131, Tryz.ntmps131
  go_wp2
  go_loopw [3, 5] (fun v i wr => ∃ k : Nat, k ≤ 5 ∧ i = .int .i64 k ∧ OwnK wr w.heap.size v (kindsTo s k).length (kindsTo s k) ∧ Below w.heap.size w wr) (fun _ i _ => 5 - (intOf i).toNat)
  case atStart => exact ⟨0, by omega, rfl, OwnK.nil _ _, Below.refl _ _⟩
  case round =>
    obtain ⟨k, hk, rfl, hown, hb⟩ := hrel
    have HOwn := Lib.hid hown
    have HB := Lib.hid hb
    clear hown hb
    by_cases hlt : k < 5
    · have hk0 : (0 : Int) ≤ (k : Int) := by omega
      have hk1 : (k : Int) < 5 := by omega
      have HK : Hid (kOk (k : Int) = true) := Lib.hid (by unfold kOk; simp; omega)
      have hle := kindsTo_len s k
      have ha := and_one s HK.out
      by_cases hL : hasB s (k : Int) = true
      · rw [hL] at ha
        have HA := Lib.hid (kindsTo_yes hL)
        clear hL
        obtain ⟨n, hn⟩ : ∃ n, n = (kindsTo s k).length := ⟨_, rfl⟩
        rw [← hn] at HOwn hle
        have HN := Lib.hid hn
        clear hn
        have hsz : w.heap.size ≤ wr.heap.size := HB.out.size
        go_wp2_with fail
        refine (pbit_any HK.out _).mono ?_
        rintro e w1 ⟨rfl, rfl⟩
        obtain ⟨t, ht⟩ : ∃ t, t = (2 : Int) ^ (k : Int).toNat := ⟨_, rfl⟩
        rw [← ht] at ha
        rw [← ht]
        clear ht
        go_wp2_with (at_builtin; refine wpList_append_own _ rfl (.tmp 13) (.tmp 15) 45 rfl w.heap.size 67 i0 (.int .i64 0) 1 8 Tryz.underlying45 HI.out.1 HI.out.2.1 HI.out.2.2.1 HI.out.2.2.2 rfl (by decide) _ _ _ rfl (HOwn.out.alloc _) ⟨wr.heap.size, 0, none⟩ 1 1 [.int .i64 (k : Int)] rfl rfl (cell_one_new _ _ _) (by intro u hu; simp at hu; subst hu; rfl) (by unfold maxLen; omega) (by omega) (by simp; omega) ?_)
        intro v' w2 hown' hgrow _
        have HOwn' := Lib.hid hown'
        have HGr := Lib.hid hgrow
        clear hown' hgrow
        go_wp2
        go_roundw
        case rel =>
          have el : (kindsTo s (k + 1)).length = n + 1 := by rw [HA.out, List.length_append, ← HN.out]; rfl
          refine ⟨k + 1, by omega, by go_num, ?_, grownK_below HOwn.out (Nat.le_refl _) HB.out hsz HGr.out⟩
          rw [el]
          unfold OwnK
          rw [HA.out, List.map_append]
          exact HOwn'.out
        case measure => simp [intOf] <;> omega
      · have hL' : hasB s (k : Int) = false := by simpa using hL
        rw [hL'] at ha
        have HA := Lib.hid (kindsTo_no hL')
        clear hL hL'
        go_wp2_with fail
        refine (pbit_any HK.out _).mono ?_
        rintro e w1 ⟨rfl, rfl⟩
        obtain ⟨t, ht⟩ : ∃ t, t = (2 : Int) ^ (k : Int).toNat := ⟨_, rfl⟩
        rw [← ht] at ha
        rw [← ht]
        clear ht
        go_wp2
        go_roundw
        case rel => exact ⟨k + 1, by omega, by go_num, by rw [HA.out]; exact HOwn.out, HB.out⟩
        case measure => simp [intOf] <;> omega
    · obtain rfl : k = 5 := by omega
      rw [kindsTo_all] at HOwn
      obtain ⟨a, cap, rfl, hr⟩ := HOwn.out.row
      have HA := Lib.hid hr
      clear hr
      go_wp2
      go_ret
      exact ⟨a, cap, rfl, HA.out, HB.out⟩

set_option maxHeartbeats 1000000 in
set_option maxRecDepth 100000 in
theorem phas_any (s : Int) (a : Option Addr) (len cap : Nat) (ks : List Int) (w : World) (row : Row w a len ks) :
    Calls Tryz.prog 88 #[.int .i64 s, .slice a len cap] w fun e w' => e = .returned (.bool (hasAll s ks)) ∧ w = w' := by
  have HRow := Lib.hid row
  clear row
  cases hok : ksOk ks with
  | true =>
    have ha := hasAll_and s ks hok
    have HV : Hid (ksV ks = ksS ks ∧ ksE ks = 0) := Lib.hid (by unfold ksV ksE; rw [hok]; exact ⟨rfl, rfl⟩)
    clear hok
    go_enter Tryz.func88, Tryz.ntmps88
    go_wp2_with fail
    refine (pof_any _ _ _ ks _ HRow.out).mono ?_
    rintro e w1 ⟨rfl, rfl⟩
    rw [HV.out.1, HV.out.2]
    clear HV HRow
    obtain ⟨t, ht⟩ : ∃ t, t = ksS ks := ⟨_, rfl⟩
    rw [← ht] at ha
    rw [← ht]
    clear ht
    go_wp2
    go_ret
    exact ⟨by rw [← ha]; rfl, rfl⟩
  | false =>
    rw [hasAll_no hok]
    have HV : Hid (ksV ks = 0 ∧ ksE ks = 1) := Lib.hid (by unfold ksV ksE; rw [hok]; exact ⟨rfl, rfl⟩)
    clear hok
    go_enter Tryz.func88, Tryz.ntmps88
    go_wp2_with fail
    refine (pof_any _ _ _ ks _ HRow.out).mono ?_
    rintro e w1 ⟨rfl, rfl⟩
    rw [HV.out.1, HV.out.2]
    clear HV HRow
    go_wp2
    go_ret
    exact ⟨rfl, rfl⟩
theorem phas_b {s : Int} {ks : List Int} {b : Bool} (h : hasAll s ks = b) (a : Option Addr) (len cap : Nat) (w : World) (row : Row w a len ks) :
    Calls Tryz.prog 88 #[.int .i64 s, .slice a len cap] w fun e w' => e = .returned (.bool b) ∧ w = w' := (phas_any s a len cap ks w row).mono fun _ _ ⟨he, hw⟩ => ⟨by rw [he, h], hw⟩
end Go.Proofs.YtcpgkkphibhdfaaGreat
