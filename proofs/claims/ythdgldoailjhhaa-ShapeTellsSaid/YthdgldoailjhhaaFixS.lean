/-
  What package fix's sum answers, and that of its reference; whether numbers may be, by the reference.
-/
import Derived.Test.YthdgldoailjhhaaFixB2
namespace Go.Proofs.Ythdgldoailjhhaa
open Go.RowKit

/-! plain facts on sums -/
theorem okB_getD (zs : List Int) (k : Nat) (h : rightB zs = true) (hk : k < zs.length) : -2147483648 ≤ zs.getD k 0 ∧ zs.getD k 0 ≤ 2147483647 := by
  unfold rightB at h
  rw [List.all_eq_true] at h
  have hm : zs.getD k 0 ∈ zs := by
    simp only [List.getD, List.getElem?_eq_getElem hk, Option.getD_some]
    exact List.getElem_mem hk
  exact okB_iff.1 (h _ hm)

theorem sum_succ (zs : List Int) (k : Nat) (h : k < zs.length) : (zs.take (k + 1)).sum = (zs.take k).sum + zs.getD k 0 := by
  rw [List.take_add_one, List.sum_append]
  simp [List.getD, List.getElem?_eq_getElem h]

theorem sum_bd (zs : List Int) (h : rightB zs = true) : ∀ k : Nat, k ≤ zs.length → -2147483648 * (k : Int) ≤ (zs.take k).sum ∧ (zs.take k).sum ≤ 2147483648 * (k : Int)
  | 0, _ => by simp
  | k + 1, hk => by
    have ih := sum_bd zs h k (by omega)
    have hb := okB_getD zs k h (by omega)
    rw [sum_succ zs k (by omega)]
    omega

def addOk (zs : List Int) : Bool := decide (zs.length ≤ 1024) && rightB zs
def addV (zs : List Int) : Int := if addOk zs then fitV zs.sum else 0
def addE (zs : List Int) : Int := if addOk zs then fitE zs.sum else 1

set_option maxHeartbeats 400000 in
theorem add_row (b off len cap : Nat) (zs : List Int) (w : World) (hl : zs.length = len) (hle : len ≤ 1024) (hr : rightB zs = true) (hc : ∀ j, j < len → w.cell? ⟨b, off + j, none⟩ = some (.int .i64 (zs.getD j 0))) :
    Calls Try.prog 35 #[.slice (some ⟨b, off, none⟩) len cap] w fun e w' => e = .returned (.tuple #[.int .i64 (fitV zs.sum), .int .i64 (fitE zs.sum)]) ∧ Below w.heap.size w w' := by
  have HL := Lib.hid hl
  have HC := Lib.hid hc
  have HB := Lib.hid (sum_bd zs hr)
  have HO := Lib.hid (okB_getD zs · hr)
  have row : Row w (some ⟨b, off, none⟩) len zs := ⟨hl, by omega, Or.inr ⟨b, off, rfl, hc⟩⟩
  have HRow := Lib.hid row
  clear hl hc row
  go_enter Try.func35, Try.ntmps35
  go_wp2_with (go_at_call 27; refine (right_any _ _ _ zs _ HRow.out).mono ?_; rintro e w' ⟨rfl, rfl⟩)
  go_loop [4, 17] (fun s i => ∃ k : Nat, k ≤ len ∧ i = .int .i64 k ∧ s = .int .i64 (zs.take k).sum) (fun _ i => len - (intOf i).toNat)
  case atStart => exact ⟨0, Nat.zero_le _, rfl, rfl⟩
  case round =>
    obtain ⟨k, hk, rfl, rfl⟩ := hrel
    obtain ⟨s1, s2⟩ := HB.out k (by rw [HL.out]; exact hk)
    by_cases hlt : k < len
    · have hk' : k < zs.length := by rw [HL.out]; exact hlt
      obtain ⟨x, hx⟩ : ∃ x, x = zs.getD k 0 := ⟨_, rfl⟩
      have hcell := HC.out k hlt
      obtain ⟨x1, x2⟩ := HO.out k hk'
      have H1 := Lib.hid (sum_succ zs k hk')
      rw [← hx] at hcell x1 x2
      rw [← hx] at H1
      clear hx hk'
      go_wp2
      go_round
      case rel => exact ⟨k + 1, by omega, by go_num, by rw [H1.out]⟩
      case measure => simp [intOf]; omega
    · have e : zs.take k = zs := List.take_of_length_le (by rw [HL.out]; omega)
      rw [e] at *
      clear e
      go_wp2_with (go_at_call 51; refine (fit_any _ _).mono ?_; rintro e w' ⟨rfl, hb⟩)
      go_ret2
      exact ⟨rfl, hb⟩

set_option maxHeartbeats 400000 in
theorem add_empty (a : Option Addr) (cap : Nat) (w : World) :
    Calls Try.prog 35 #[.slice a 0 cap] w fun e w' => e = .returned (.tuple #[.int .i64 (fitV 0), .int .i64 (fitE 0)]) ∧ Below w.heap.size w w' := by
  go_enter Try.func35, Try.ntmps35
  go_wp2_with (go_at_call 27; refine (right_empty _ _ _).mono ?_; rintro e w' ⟨rfl, rfl⟩)
  go_loop [4, 17] (fun s i => i = .int .i64 0 ∧ s = .int .i64 0) (fun _ _ => 0)
  case atStart => exact ⟨rfl, rfl⟩
  case round =>
    obtain ⟨rfl, rfl⟩ := hrel
    go_wp2_with (go_at_call 51; refine (fit_any _ _).mono ?_; rintro e w' ⟨rfl, hb⟩)
    go_ret2
    exact ⟨rfl, hb⟩

set_option maxHeartbeats 400000 in
theorem add_many (a : Option Addr) (len cap : Nat) (w : World) (h : 1024 < len) (hbig : len ≤ 9223372036854775807) :
    Calls Try.prog 35 #[.slice a len cap] w fun e w' => e = .returned (.tuple #[.int .i64 0, .int .i64 1]) ∧ Below w.heap.size w w' := by
  go_enter Try.func35, Try.ntmps35
  go_wp2
  go_ret2
  exact ⟨rfl, Below.refl _ _⟩

set_option maxHeartbeats 400000 in
theorem add_wrong (a : Option Addr) (len cap : Nat) (zs : List Int) (w : World) (h : len ≤ 1024) (hr : rightB zs = false) (row : Row w a len zs) :
    Calls Try.prog 35 #[.slice a len cap] w fun e w' => e = .returned (.tuple #[.int .i64 0, .int .i64 1]) ∧ Below w.heap.size w w' := by
  have HRow := Lib.hid row
  clear row
  go_enter Try.func35, Try.ntmps35
  go_wp2_with (go_at_call 27; refine (right_any _ _ _ zs _ HRow.out).mono ?_; rintro e w' ⟨rfl, rfl⟩)
  go_ret2
  exact ⟨rfl, Below.refl _ _⟩

theorem addOk_many {zs : List Int} {len : Nat} (hl : zs.length = len) (h : 1024 < len) : addOk zs = false := by
  unfold addOk; rw [decide_eq_false (by omega)]; rfl
theorem addOk_wrong {zs : List Int} (h : rightB zs = false) : addOk zs = false := by unfold addOk; rw [h, Bool.and_false]
theorem addOk_yes {zs : List Int} {len : Nat} (hl : zs.length = len) (h : len ≤ 1024) (hr : rightB zs = true) : addOk zs = true := by
  unfold addOk; rw [decide_eq_true (by omega), hr]; rfl
theorem addV_no {zs : List Int} (h : addOk zs = false) : addV zs = 0 := by unfold addV; rw [if_neg (by rw [h]; decide)]
theorem addE_no {zs : List Int} (h : addOk zs = false) : addE zs = 1 := by unfold addE; rw [if_neg (by rw [h]; decide)]
theorem addV_yes {zs : List Int} (h : addOk zs = true) : addV zs = fitV zs.sum := by unfold addV; rw [if_pos h]
theorem addE_yes {zs : List Int} (h : addOk zs = true) : addE zs = fitE zs.sum := by unfold addE; rw [if_pos h]

theorem add_any (a : Option Addr) (len cap : Nat) (zs : List Int) (w : World) (h : Row w a len zs) :
    Calls Try.prog 35 #[.slice a len cap] w fun e w' => e = .returned (.tuple #[.int .i64 (addV zs), .int .i64 (addE zs)]) ∧ Below w.heap.size w w' := by
  have row := h
  obtain ⟨hl, hm, h0⟩ := h
  by_cases hn : 1024 < len
  · rw [addV_no (addOk_many hl hn), addE_no (addOk_many hl hn)]
    exact add_many a len cap w hn hm
  · by_cases hr : rightB zs = true
    · rw [addV_yes (addOk_yes hl (by omega) hr), addE_yes (addOk_yes hl (by omega) hr)]
      rcases h0 with h0 | ⟨b, off, rfl, hc⟩
      · subst h0
        obtain rfl := List.eq_nil_of_length_eq_zero hl
        exact add_empty a cap w
      · exact add_row b off len cap zs w hl (by omega) hr hc
    · have hr' : rightB zs = false := by simpa using hr
      rw [addV_no (addOk_wrong hr'), addE_no (addOk_wrong hr')]
      exact add_wrong a len cap zs w (by omega) hr' row

/-! the reference -/
set_option maxHeartbeats 400000 in
theorem one_any (x : Int) (w : World) :
    Calls Try.prog 44 #[.int .i64 x] w fun e w' => e = .returned (.bool (okB x)) ∧ w = w' := by
  by_cases h1 : -2147483648 ≤ x
  · by_cases h2 : x ≤ 2147483647
    · rw [okB_yes h1 h2]
      go_enter Try.func44, Try.ntmps44
      go_wp2
      go_ret
      exact ⟨rfl, rfl⟩
    · rw [okB_hi (by omega)]
      go_enter Try.func44, Try.ntmps44
      go_wp2
      go_ret
      exact ⟨rfl, rfl⟩
  · rw [okB_lo (by omega)]
    go_enter Try.func44, Try.ntmps44
    go_wp2
    go_ret
    exact ⟨rfl, rfl⟩

set_option maxHeartbeats 400000 in
theorem out_any (x : Int) (w : World) :
    Calls Try.prog 52 #[.int .i64 x] w fun e w' => e = .returned (.tuple #[.int .i64 (fitV x), .int .i64 (fitE x)]) ∧ w = w' := by
  by_cases h : okB x = true
  · have e1 : fitV x = x := by unfold fitV; rw [if_pos h]
    have e2 : fitE x = 0 := by unfold fitE; rw [if_pos h]
    rw [e1, e2]
    clear e1 e2
    go_enter Try.func52, Try.ntmps52
    go_wp2_with (go_at_call 44; refine (one_any _ _).mono ?_; rintro e w' ⟨rfl, rfl⟩)
    go_ret2
    exact ⟨rfl, rfl⟩
  · have h' : okB x = false := by simpa using h
    have e1 : fitV x = 0 := by unfold fitV; rw [if_neg h]
    have e2 : fitE x = 6 := by unfold fitE; rw [if_neg h]
    rw [e1, e2]
    clear e1 e2 h
    go_enter Try.func52, Try.ntmps52
    go_wp2_with (go_at_call 44; refine (one_any _ _).mono ?_; rintro e w' ⟨rfl, rfl⟩)
    go_ret2
    exact ⟨rfl, rfl⟩

set_option maxHeartbeats 400000 in
theorem rright_empty (a : Option Addr) (cap : Nat) (w : World) :
    Calls Try.prog 28 #[.slice a 0 cap] w fun e w' => e = .returned (.bool true) ∧ w = w' := by
  go_enter Try.func28, Try.ntmps28
  go_wp2
  go_loop [3] (fun i => i = .int .i64 0) (fun _ => 0)
  case atStart => rfl
  case round =>
    obtain rfl := hrel
    go_wp2
    go_ret
    exact ⟨rfl, rfl⟩

set_option maxHeartbeats 400000 in
theorem rright_row (b off len cap : Nat) (zs : List Int) (w : World) (hl : zs.length = len) (hbig : len ≤ 9223372036854775807) (hc : ∀ j, j < len → w.cell? ⟨b, off + j, none⟩ = some (.int .i64 (zs.getD j 0))) :
    Calls Try.prog 28 #[.slice (some ⟨b, off, none⟩) len cap] w fun e w' => e = .returned (.bool (rightB zs)) ∧ w = w' := by
  have HL := Lib.hid hl
  have HC := Lib.hid hc
  clear hl hc
  go_enter Try.func28, Try.ntmps28
  go_wp2
  go_loop [3] (fun i => ∃ k : Nat, k ≤ len ∧ i = .int .i64 k ∧ rightB (zs.take k) = true) (fun i => len - (intOf i).toNat)
  case atStart => exact ⟨0, Nat.zero_le _, rfl, rfl⟩
  case round =>
    obtain ⟨k, hk, rfl, hr⟩ := hrel
    have HR := Lib.hid hr
    clear hr
    by_cases hlt : k < len
    · have hk' : k < zs.length := by rw [HL.out]; exact hlt
      obtain ⟨x, hx⟩ : ∃ x, x = zs.getD k 0 := ⟨_, rfl⟩
      have hcell := HC.out k hlt
      have H1 := Lib.hid (rightB_take_succ zs k hk')
      have H2 := Lib.hid (rightB_bad zs k hk')
      rw [← hx] at hcell
      rw [← hx] at H1 H2
      clear hx hk'
      by_cases hok : okB x = true
      · go_wp2_with (go_at_call 44; refine (one_any _ _).mono ?_; rintro e w' ⟨rfl, rfl⟩)
        go_round
        case rel => exact ⟨k + 1, by omega, by go_num, by rw [H1.out, HR.out, hok]; rfl⟩
        case measure => simp [intOf]; omega
      · have hok' : okB x = false := by simpa using hok
        clear hok
        go_wp2_with (go_at_call 44; refine (one_any _ _).mono ?_; rintro e w' ⟨rfl, rfl⟩)
        go_ret
        exact ⟨ret_bool (H2.out hok').symm, rfl⟩
    · go_wp2
      go_ret
      have e : zs.take k = zs := List.take_of_length_le (by rw [HL.out]; omega)
      exact ⟨ret_bool (by rw [← HR.out, e]), rfl⟩

theorem rright_any (a : Option Addr) (len cap : Nat) (zs : List Int) (w : World) (h : Row w a len zs) :
    Calls Try.prog 28 #[.slice a len cap] w fun e w' => e = .returned (.bool (rightB zs)) ∧ w = w' := by
  obtain ⟨hl, hm, h0 | ⟨b, off, rfl, hc⟩⟩ := h
  · subst h0
    obtain rfl := List.eq_nil_of_length_eq_zero hl
    exact rright_empty a cap w
  · exact rright_row b off len cap zs w hl hm hc

set_option maxHeartbeats 400000 in
theorem radd_row (b off len cap : Nat) (zs : List Int) (w : World) (hl : zs.length = len) (hle : len ≤ 1024) (hr : rightB zs = true) (hc : ∀ j, j < len → w.cell? ⟨b, off + j, none⟩ = some (.int .i64 (zs.getD j 0))) :
    Calls Try.prog 38 #[.slice (some ⟨b, off, none⟩) len cap] w fun e w' => e = .returned (.tuple #[.int .i64 (fitV zs.sum), .int .i64 (fitE zs.sum)]) ∧ w = w' := by
  have HL := Lib.hid hl
  have HC := Lib.hid hc
  have HB := Lib.hid (sum_bd zs hr)
  have HO := Lib.hid (okB_getD zs · hr)
  have row : Row w (some ⟨b, off, none⟩) len zs := ⟨hl, by omega, Or.inr ⟨b, off, rfl, hc⟩⟩
  have HRow := Lib.hid row
  clear hl hc row
  go_enter Try.func38, Try.ntmps38
  go_wp2_with (go_at_call 28; refine (rright_any _ _ _ zs _ HRow.out).mono ?_; rintro e w' ⟨rfl, rfl⟩)
  go_loop [5, 6] (fun s i => ∃ k : Nat, k ≤ len ∧ i = .int .i64 k ∧ s = .int .i64 (zs.take k).sum) (fun _ i => len - (intOf i).toNat)
  case atStart => exact ⟨0, Nat.zero_le _, rfl, rfl⟩
  case round =>
    obtain ⟨k, hk, rfl, rfl⟩ := hrel
    obtain ⟨s1, s2⟩ := HB.out k (by rw [HL.out]; exact hk)
    by_cases hlt : k < len
    · have hk' : k < zs.length := by rw [HL.out]; exact hlt
      obtain ⟨x, hx⟩ : ∃ x, x = zs.getD k 0 := ⟨_, rfl⟩
      have hcell := HC.out k hlt
      obtain ⟨x1, x2⟩ := HO.out k hk'
      have H1 := Lib.hid (sum_succ zs k hk')
      rw [← hx] at hcell x1 x2
      rw [← hx] at H1
      clear hx hk'
      go_wp2
      go_round
      case rel => exact ⟨k + 1, by omega, by go_num, by rw [H1.out]⟩
      case measure => simp [intOf]; omega
    · have e : zs.take k = zs := List.take_of_length_le (by rw [HL.out]; omega)
      rw [e] at *
      clear e
      go_wp2_with (go_at_call 52; refine (out_any _ _).mono ?_; rintro e w' ⟨rfl, rfl⟩)
      go_ret2
      exact ⟨rfl, rfl⟩

set_option maxHeartbeats 400000 in
theorem radd_empty (a : Option Addr) (cap : Nat) (w : World) :
    Calls Try.prog 38 #[.slice a 0 cap] w fun e w' => e = .returned (.tuple #[.int .i64 (fitV 0), .int .i64 (fitE 0)]) ∧ w = w' := by
  go_enter Try.func38, Try.ntmps38
  go_wp2_with (go_at_call 28; refine (rright_empty _ _ _).mono ?_; rintro e w' ⟨rfl, rfl⟩)
  go_loop [5, 6] (fun s i => i = .int .i64 0 ∧ s = .int .i64 0) (fun _ _ => 0)
  case atStart => exact ⟨rfl, rfl⟩
  case round =>
    obtain ⟨rfl, rfl⟩ := hrel
    go_wp2_with (go_at_call 52; refine (out_any _ _).mono ?_; rintro e w' ⟨rfl, rfl⟩)
    go_ret2
    exact ⟨rfl, rfl⟩

set_option maxHeartbeats 400000 in
theorem radd_many (a : Option Addr) (len cap : Nat) (zs : List Int) (w : World) (h : 1024 < len) (hbig : len ≤ 9223372036854775807) (row : Row w a len zs) :
    Calls Try.prog 38 #[.slice a len cap] w fun e w' => e = .returned (.tuple #[.int .i64 0, .int .i64 1]) ∧ w = w' := by
  have HRow := Lib.hid row
  clear row
  by_cases hr : rightB zs = true
  · go_enter Try.func38, Try.ntmps38
    go_wp2_with (go_at_call 28; refine (rright_any _ _ _ zs _ HRow.out).mono ?_; rintro e w' ⟨rfl, rfl⟩)
    go_ret2
    exact ⟨rfl, rfl⟩
  · have hr' : rightB zs = false := by simpa using hr
    clear hr
    go_enter Try.func38, Try.ntmps38
    go_wp2_with (go_at_call 28; refine (rright_any _ _ _ zs _ HRow.out).mono ?_; rintro e w' ⟨rfl, rfl⟩)
    go_ret2
    exact ⟨rfl, rfl⟩

set_option maxHeartbeats 400000 in
theorem radd_wrong (a : Option Addr) (len cap : Nat) (zs : List Int) (w : World) (hr : rightB zs = false) (row : Row w a len zs) :
    Calls Try.prog 38 #[.slice a len cap] w fun e w' => e = .returned (.tuple #[.int .i64 0, .int .i64 1]) ∧ w = w' := by
  have HRow := Lib.hid row
  clear row
  go_enter Try.func38, Try.ntmps38
  go_wp2_with (go_at_call 28; refine (rright_any _ _ _ zs _ HRow.out).mono ?_; rintro e w' ⟨rfl, rfl⟩)
  go_ret2
  exact ⟨rfl, rfl⟩

theorem radd_any (a : Option Addr) (len cap : Nat) (zs : List Int) (w : World) (h : Row w a len zs) :
    Calls Try.prog 38 #[.slice a len cap] w fun e w' => e = .returned (.tuple #[.int .i64 (addV zs), .int .i64 (addE zs)]) ∧ w = w' := by
  have row := h
  obtain ⟨hl, hm, h0⟩ := h
  by_cases hn : 1024 < len
  · rw [addV_no (addOk_many hl hn), addE_no (addOk_many hl hn)]
    exact radd_many a len cap zs w hn hm row
  · by_cases hr : rightB zs = true
    · rw [addV_yes (addOk_yes hl (by omega) hr), addE_yes (addOk_yes hl (by omega) hr)]
      rcases h0 with h0 | ⟨b, off, rfl, hc⟩
      · subst h0
        obtain rfl := List.eq_nil_of_length_eq_zero hl
        exact radd_empty a cap w
      · exact radd_row b off len cap zs w hl (by omega) hr hc
    · have hr' : rightB zs = false := by simpa using hr
      rw [addV_no (addOk_wrong hr'), addE_no (addOk_wrong hr')]
      exact radd_wrong a len cap zs w hr' row

end Go.Proofs.Ythdgldoailjhhaa
