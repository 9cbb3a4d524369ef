/-
  4 texts in one file, each with its own heading.
-/
import Derived.Test.YtffbehcbokmpkaaML05
/-
  What the reference's Right of layer 6 answers.
-/
namespace Go.Proofs.Ytffbehcbokmpkaa
open Go.RowKit

def zI : Nat → Int := fun _ => 0
def zkB (M : Nat → Int) (m : Int) (B : Nat → Int) (p a : Int) (c : Bool) (l : Int) (k : Nat) : Bool :=
  if k = 0 then eq12 zI M else if k = 1 then (0 == m) && eq6 zI B else if k = 2 then (0 == p) && (0 == a) && (false == c) else if k = 3 then (0 == l) else true
def kindB (h : Int) (M : Nat → Int) (m : Int) (B : Nat → Int) (p a : Int) (c : Bool) (l : Int) (k : Nat) : Bool := hasN h k || zkB M m B p a c l k
def kindsB (h : Int) (M : Nat → Int) (m : Int) (B : Nat → Int) (p a : Int) (c : Bool) (l : Int) : Bool := kindB h M m B p a c l 0 && kindB h M m B p a c l 1 && kindB h M m B p a c l 2 && kindB h M m B p a c l 3 && kindB h M m B p a c l 4
def restB (M : Nat → Int) (m : Int) (B : Nat → Int) (p a : Int) (l : Int) : Bool := okM M && inB m 255 && okBox B && inB p 63 && inB a 255 && inB l 255
def rightP (h : Int) (M : Nat → Int) (m : Int) (B : Nat → Int) (p a : Int) (c : Bool) (l : Int) : Bool := decide (0 ≤ h) && decide (h ≤ 31) && kindsB h M m B p a c l && restB M m B p a l
abbrev PT := Int × (Nat → Int) × Int × (Nat → Int) × Int × Int × Bool × Int
def pl (P : PT) : List Value := PL P.1 P.2.1 P.2.2.1 P.2.2.2.1 P.2.2.2.2.1 P.2.2.2.2.2.1 P.2.2.2.2.2.2.1 P.2.2.2.2.2.2.2
def zT : PT := (0, zI, 0, zI, 0, 0, false, 0)
def rightT (P : PT) : Bool := rightP P.1 P.2.1 P.2.2.1 P.2.2.2.1 P.2.2.2.2.1 P.2.2.2.2.2.1 P.2.2.2.2.2.2.1 P.2.2.2.2.2.2.2
def layT (k : Int) (P Q : PT) : PT :=
  if k = 0 then (P.1, Q.2.1, P.2.2) else if k = 1 then (P.1, P.2.1, Q.2.2.1, Q.2.2.2.1, P.2.2.2.2) else if k = 2 then (P.1, P.2.1, P.2.2.1, P.2.2.2.1, Q.2.2.2.2.1, Q.2.2.2.2.2.1, Q.2.2.2.2.2.2.1, P.2.2.2.2.2.2.2) else if k = 3 then (P.1, P.2.1, P.2.2.1, P.2.2.2.1, P.2.2.2.2.1, P.2.2.2.2.2.1, P.2.2.2.2.2.2.1, Q.2.2.2.2.2.2.2) else P
theorem layT_has (k : Int) (P Q : PT) : (layT k P Q).1 = P.1 := by
  unfold layT
  by_cases h0 : k = 0
  · rw [if_pos h0]
  · rw [if_neg h0]
    by_cases h1 : k = 1
    · rw [if_pos h1]
    · rw [if_neg h1]
      by_cases h2 : k = 2
      · rw [if_pos h2]
      · rw [if_neg h2]
        by_cases h3 : k = 3
        · rw [if_pos h3]
        · rw [if_neg h3]
theorem pl_len (P : PT) : (pl P).length = 24 := rfl
theorem pl_size (P : PT) : (Try.prog.info? 32).map (·.size) = some (pl P).length := size_parts _ _ _ _ _ _ _ _
theorem pl_size' (P : PT) : (Try.prog.info? 32).map (·.size) = some (pl P).toArray.size := size_parts _ _ _ _ _ _ _ _
theorem pl_one (P : PT) : (pl P).toArray.all (·.oneCell') = true := PL_one _ _ _ _ _ _ _ _
theorem pl_set (P : PT) (s : Int) : (pl P).set 0 (.int .i64 s) = pl (s, P.2) := rfl
def stepW (Q P : PT) (k : Int) : PT := (addK P.1 k, (layT k P Q).2)
def hasAll (s : Int) (ks : List Int) : Bool := ks.all (hasB s)
def withT (P Q : PT) (ks : List Int) : PT := ks.foldl (stepW Q) P
theorem with_succ {P Q : PT} {ks : List Int} {j : Nat} {k : Int} (h : ks[j]? = some k) : withT P Q (ks.take (j + 1)) = stepW Q (withT P Q (ks.take j)) k := by
  unfold withT
  rw [List.take_add_one, h, List.foldl_append]
  rfl
theorem has_kOk {s k : Int} (h : hasB s k = true) : kOk k = true := by
  unfold hasB at h
  unfold kOk
  rw [Bool.and_eq_true] at h
  exact h.1
theorem or_tab : (List.range 32).all (fun s => (List.range 5).all fun k => decide (bits .or .i64 (s : Int) ((2 : Int) ^ k) = addK s k)) = true := by kernel_rfl
theorem and_tab : (List.range 32).all (fun s => (List.range 32).all fun a => decide ((bits .and .i64 (s : Int) (a : Int) == (a : Int)) = (List.range 5).all fun j => !hasN a j || hasN s j)) = true := by kernel_rfl
theorem one_tab : (List.range 32).all (fun s => (List.range 5).all fun k => decide ((bits .and .i64 (s : Int) ((2 : Int) ^ k) != 0) = hasN s k)) = true := by kernel_rfl
theorem add_tab : (List.range 32).all (fun s => (List.range 5).all fun k => (List.range 5).all fun j => decide (hasN (addK (s : Int) (k : Int)) j = (hasN s j || (k == j)))) = true := by kernel_rfl
theorem tab {n : Nat} {f : Nat → Bool} (h : (List.range n).all f = true) {k : Nat} (hk : k < n) : f k = true := List.all_eq_true.1 h k (List.mem_range.2 hk)

theorem nat_of {s : Int} (h : 0 ≤ s ∧ s ≤ 31) : ∃ n : Nat, s = (n : Int) ∧ n < 32 := ⟨s.toNat, by omega, by omega⟩
theorem kind_of {k : Int} (h : kOk k = true) : ∃ n : Nat, k = (n : Int) ∧ n < 5 := ⟨k.toNat, by rcases kOk_cases h with rfl | rfl | rfl | rfl | rfl <;> rfl, by rcases kOk_cases h with rfl | rfl | rfl | rfl | rfl <;> decide⟩
theorem or_addK {s k : Int} (hs : 0 ≤ s ∧ s ≤ 31) (hk : kOk k = true) : bits .or .i64 s (2 ^ k.toNat) = addK s k := by
  obtain ⟨n, rfl, hn⟩ := nat_of hs
  obtain ⟨m, rfl, hm⟩ := kind_of hk
  exact of_decide_eq_true (tab (tab or_tab hn) hm)
theorem add_has {s k : Int} (hs : 0 ≤ s ∧ s ≤ 31) (hk : kOk k = true) {j : Nat} (hj : j < 5) : hasN (addK s k) j = (hasN s j || (k == (j : Int))) := by
  obtain ⟨n, rfl, hn⟩ := nat_of hs
  obtain ⟨m, rfl, hm⟩ := kind_of hk
  have := of_decide_eq_true (tab (tab (tab add_tab hn) hm) hj)
  rw [this]
  congr 1
  rw [Bool.eq_iff_iff]; simp; omega
theorem has_mod (s : Int) {j : Nat} (hj : j < 5) : hasN (s % 32) j = hasN s j := by
  unfold hasN
  congr 1
  obtain rfl | rfl | rfl | rfl | rfl : j = 0 ∨ j = 1 ∨ j = 2 ∨ j = 3 ∨ j = 4 := by omega
  · show (s % 32 / 1 % 2 = 1) = (s / 1 % 2 = 1); rw [eq_iff_iff]; omega
  · show (s % 32 / 2 % 2 = 1) = (s / 2 % 2 = 1); rw [eq_iff_iff]; omega
  · show (s % 32 / 4 % 2 = 1) = (s / 4 % 2 = 1); rw [eq_iff_iff]; omega
  · show (s % 32 / 8 % 2 = 1) = (s / 8 % 2 = 1); rw [eq_iff_iff]; omega
  · show (s % 32 / 16 % 2 = 1) = (s / 16 % 2 = 1); rw [eq_iff_iff]; omega
theorem and_mod (s : Int) {a : Int} (ha : 0 ≤ a ∧ a ≤ 31) : bits .and .i64 s a = bits .and .i64 (s % 32) a := by
  obtain ⟨m, rfl, hm⟩ := nat_of ha
  have h2 : (BitVec.ofInt 64 (m : Int)).toNat = m := by
    rw [BitVec.ofInt_natCast, BitVec.toNat_ofNat]; exact Nat.mod_eq_of_lt (by omega)
  show IntKind.i64.wrap ((BitVec.ofInt 64 s &&& BitVec.ofInt 64 (m : Int)).toNat : Int) = IntKind.i64.wrap ((BitVec.ofInt 64 (s % 32) &&& BitVec.ofInt 64 (m : Int)).toNat : Int)
  rw [BitVec.toNat_and, BitVec.toNat_and, h2, ofInt_nat, ofInt_nat]
  have hk : ∀ x : Nat, x &&& m = (x % 32) &&& m := fun x => by
    have e : 31 &&& m = m := by rw [Nat.and_comm, show (31 : Nat) = 2 ^ 5 - 1 by decide, Nat.and_two_pow_sub_one_eq_mod]; exact Nat.mod_eq_of_lt hm
    have e2 : x % 32 = x &&& 31 := by rw [show (31 : Nat) = 2 ^ 5 - 1 by decide, Nat.and_two_pow_sub_one_eq_mod]
    rw [e2, Nat.and_assoc, e]
  rw [hk]
  congr 3
  omega
theorem and_one (s : Int) {k : Int} (hk : kOk k = true) : (bits .and .i64 s (2 ^ k.toNat) != 0) = hasB s k := by
  obtain ⟨m, rfl, hm⟩ := kind_of hk
  rw [has_yes (by omega), Int.toNat_natCast]
  have hb : (0 : Int) ≤ 2 ^ m ∧ (2 : Int) ^ m ≤ 31 := by
    obtain rfl | rfl | rfl | rfl | rfl : m = 0 ∨ m = 1 ∨ m = 2 ∨ m = 3 ∨ m = 4 := by omega
    all_goals decide
  rw [and_mod s hb, ← has_mod s hm]
  obtain ⟨n, e, hn⟩ := nat_of (s := s % 32) (by omega)
  rw [e]
  exact of_decide_eq_true (tab (tab one_tab hn) hm)

theorem fold_add : ∀ (ks : List Int) (s : Int), 0 ≤ s ∧ s ≤ 31 → ksOk ks = true → ∀ {j : Nat}, j < 5 → hasN (ks.foldl addK s) j = (hasN s j || ks.any (· == (j : Int)))
  | [], s, _, _, j, _ => by simp
  | k :: r, s, hs, h, j, hj => by
    unfold ksOk at h
    rw [List.all_cons, Bool.and_eq_true] at h
    rw [List.foldl_cons, fold_add r _ (addK_bound hs h.1) h.2 hj, add_has hs h.1 hj, List.any_cons, Bool.or_assoc]
theorem has0 (j : Nat) : hasN 0 j = false := by unfold hasN; simp
theorem ksS_bound {ks : List Int} (h : ksOk ks = true) : 0 ≤ ksS ks ∧ ksS ks ≤ 31 := ks_bound ks 0 (by omega) h
theorem ksS_has {ks : List Int} (h : ksOk ks = true) {j : Nat} (hj : j < 5) : hasN (ksS ks) j = ks.any (· == (j : Int)) := by
  unfold ksS
  rw [fold_add ks 0 (by omega) h hj, has0, Bool.false_or]
theorem hasAll_and (s : Int) (ks : List Int) (h : ksOk ks = true) : (bits .and .i64 s (ksS ks) == ksS ks) = hasAll s ks := by
  have hb := ksS_bound h
  rw [and_mod s hb]
  obtain ⟨n, e, hn⟩ := nat_of (s := s % 32) (by omega)
  obtain ⟨m, e2, hm⟩ := nat_of hb
  have t := of_decide_eq_true (tab (tab and_tab hn) hm)
  rw [e, e2, t, Bool.eq_iff_iff, List.all_eq_true]
  unfold hasAll
  rw [List.all_eq_true]
  constructor
  · intro hall k hk
    have hok : kOk k = true := List.all_eq_true.1 h k hk
    obtain ⟨j, rfl, hj⟩ := kind_of hok
    have := hall j (List.mem_range.2 hj)
    rw [← e2, ksS_has h hj, show (ks.any (· == (j : Int))) = true from List.any_eq_true.2 ⟨_, hk, by simp⟩, ← e, has_mod s hj] at this
    rw [has_yes (by omega)]
    simpa using this
  · intro hall j hj
    have hj := List.mem_range.1 hj
    rw [← e2, ksS_has h hj, ← e, has_mod s hj]
    by_cases c : (ks.any (· == (j : Int))) = true
    · obtain ⟨k, hk, e3⟩ := List.any_eq_true.1 c
      have e3 : k = (j : Int) := by simpa using e3
      subst e3
      have := hall _ hk
      rw [has_yes (by omega)] at this
      rw [this]; simp
    · rw [Bool.eq_false_iff.2 c]; rfl
theorem hasAll_no {s : Int} {ks : List Int} (h : ksOk ks = false) : hasAll s ks = false := by
  unfold ksOk at h
  obtain ⟨k, hk, hn⟩ := List.all_eq_false.1 h
  unfold hasAll
  refine List.all_eq_false.2 ⟨k, hk, ?_⟩
  intro c
  exact hn (has_kOk c)

def kindsL (s : Int) : List Int := ([0, 1, 2, 3, 4] : List Int).filter (hasB s)
def kindsTo (s : Int) (j : Nat) : List Int := ((List.range j).map (fun k : Nat => (k : Int))).filter (hasB s)
theorem kindsTo_all (s : Int) : kindsTo s 5 = kindsL s := rfl
theorem kindsTo_yes {s : Int} {j : Nat} (h : hasB s (j : Int) = true) : kindsTo s (j + 1) = kindsTo s j ++ [(j : Int)] := by
  unfold kindsTo
  rw [List.range_succ, List.map_append, List.filter_append]
  simp [h]
theorem kindsTo_no {s : Int} {j : Nat} (h : hasB s (j : Int) = false) : kindsTo s (j + 1) = kindsTo s j := by
  unfold kindsTo
  rw [List.range_succ, List.map_append, List.filter_append]
  simp [h]
theorem kindsTo_len (s : Int) (j : Nat) : (kindsTo s j).length ≤ j := by
  unfold kindsTo
  refine Nat.le_trans (List.length_filter_le _ _) ?_
  simp
theorem kindsL_ok (s : Int) : ksOk (kindsL s) = true := by
  unfold ksOk
  refine List.all_eq_true.2 (fun k hk => ?_)
  unfold kindsL at hk
  exact has_kOk (List.mem_filter.1 hk).2
def pickT (s : Int) (P : PT) : PT := (s % 32, (if hasN s 0 then P.2.1 else zI), (if hasN s 1 then P.2.2.1 else 0), (if hasN s 1 then P.2.2.2.1 else zI), (if hasN s 2 then P.2.2.2.2.1 else 0), (if hasN s 2 then P.2.2.2.2.2.1 else 0), (if hasN s 2 then P.2.2.2.2.2.2.1 else false), (if hasN s 3 then P.2.2.2.2.2.2.2 else 0))
theorem with_pick (s : Int) (P : PT) : withT zT P (kindsL s) = pickT s P := by
  have h0 : hasB s 0 = hasN s 0 := has_yes (k := 0) (by omega)
  have h1 : hasB s 1 = hasN s 1 := has_yes (k := 1) (by omega)
  have h2 : hasB s 2 = hasN s 2 := has_yes (k := 2) (by omega)
  have h3 : hasB s 3 = hasN s 3 := has_yes (k := 3) (by omega)
  have h4 : hasB s 4 = hasN s 4 := has_yes (k := 4) (by omega)
  have hs : s % 32 = (if hasN s 0 then 1 else 0) + (if hasN s 1 then 2 else 0) + (if hasN s 2 then 4 else 0) + (if hasN s 3 then 8 else 0) + (if hasN s 4 then 16 else 0) := by
    have e0 : hasN s 0 = decide (s % 2 = 1) := by unfold hasN; simp
    have e1 : hasN s 1 = decide (s / 2 % 2 = 1) := by unfold hasN; simp
    have e2 : hasN s 2 = decide (s / 4 % 2 = 1) := by unfold hasN; simp
    have e3 : hasN s 3 = decide (s / 8 % 2 = 1) := by unfold hasN; simp
    have e4 : hasN s 4 = decide (s / 16 % 2 = 1) := by unfold hasN; simp
    rw [e0, e1, e2, e3, e4]
    simp only [decide_eq_true_eq]
    omega
  unfold pickT
  rw [hs]
  unfold kindsL
  simp only [List.filter_cons, List.filter_nil, h0, h1, h2, h3, h4]
  clear h0 h1 h2 h3 h4 hs
  generalize hasN s 0 = a0
  generalize hasN s 1 = a1
  generalize hasN s 2 = a2
  generalize hasN s 3 = a3
  generalize hasN s 4 = a4
  cases a0 <;> cases a1 <;> cases a2 <;> cases a3 <;> cases a4 <;> rfl

def eqT (P Q : PT) : Bool := eqP P.1 P.2.1 P.2.2.1 P.2.2.2.1 P.2.2.2.2.1 P.2.2.2.2.2.1 P.2.2.2.2.2.2.1 P.2.2.2.2.2.2.2 Q.1 Q.2.1 Q.2.2.1 Q.2.2.2.1 Q.2.2.2.2.1 Q.2.2.2.2.2.1 Q.2.2.2.2.2.2.1 Q.2.2.2.2.2.2.2
def bareB (P : PT) : Bool := eqT (pickT P.1 P) P
def valB (P : PT) : Bool := restB P.2.1 P.2.2.1 P.2.2.2.1 P.2.2.2.2.1 P.2.2.2.2.2.1 P.2.2.2.2.2.2.2
theorem bare_kinds (P : PT) : bareB P = (decide (0 ≤ P.1) && decide (P.1 ≤ 31) && kindsB P.1 P.2.1 P.2.2.1 P.2.2.2.1 P.2.2.2.2.1 P.2.2.2.2.2.1 P.2.2.2.2.2.2.1 P.2.2.2.2.2.2.2) := by
  obtain ⟨h, M, m, B, p, a, c, l⟩ := P
  unfold bareB eqT pickT eqP kindsB kindB zkB
  simp only []
  have e : (h % 32 == h) = (decide (0 ≤ h) && decide (h ≤ 31)) := by
    rw [Bool.eq_iff_iff]; simp; omega
  rw [e]
  have m12 := eq12_self M
  have b6 := eq6_self B
  cases hasN h 0 <;> cases hasN h 1 <;> cases hasN h 2 <;> cases hasN h 3 <;> simp [m12, b6, Bool.and_assoc]
theorem right_split (P : PT) : rightT P = (valB P && bareB P) := by
  rw [bare_kinds, Bool.and_comm]
  rfl
end Go.Proofs.Ytffbehcbokmpkaa
