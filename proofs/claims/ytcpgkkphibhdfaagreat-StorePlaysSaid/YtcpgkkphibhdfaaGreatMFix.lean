/-
  6 texts in one file, each with its own heading.
-/
import Derived.Test.YtcpgkkphibhdfaaGreatRows
import Derived.WalkKit
import Derived.WalkSpells
import Derived.WalkLawsBesides
import Derived.BigQuiet
import Derived.Lib.Hide
import Derived.Below
import Derived.OpenShut
/-
  What the leaves of package fix, and of its reference, answer: each returns what its plain Lean function says, and leaves all memory that was there as it was.
-/
namespace Go.Proofs.YtcpgkkphibhdfaaGreat
open Go.RowKit

/-- may a number be? -/
def okB (x : Int) : Bool := decide (-2147483648 ≤ x ∧ x ≤ 2147483647)
def rightB (zs : List Int) : Bool := zs.all okB

/-- a slice of integers of 64 bits whose elements are 'zs' -/
def Row (w : World) (a : Option Addr) (len : Nat) (zs : List Int) : Prop :=
  zs.length = len ∧ len ≤ 9223372036854775807 ∧ (len = 0 ∨ ∃ b off, a = some ⟨b, off, none⟩ ∧ ∀ i, i < len → w.cell? ⟨b, off + i, none⟩ = some (.int .i64 (zs.getD i 0)))

theorem rightB_take_succ (zs : List Int) (k : Nat) (h : k < zs.length) : rightB (zs.take (k + 1)) = (rightB (zs.take k) && okB (zs.getD k 0)) := by
  unfold rightB
  rw [List.take_add_one, List.all_append]
  simp [List.getD, List.getElem?_eq_getElem h]

theorem rightB_bad (zs : List Int) (k : Nat) (h : k < zs.length) (hb : okB (zs.getD k 0) = false) : rightB zs = false := by
  unfold rightB
  rw [List.all_eq_false]
  refine ⟨zs.getD k 0, ?_, by rw [hb]; decide⟩
  simp only [List.getD, List.getElem?_eq_getElem h, Option.getD_some]
  exact List.getElem_mem h

theorem ret_bool {a b : Bool} (h : a = b) : Ending.returned (.bool a) = .returned (.bool b) := by rw [h]
theorem okB_lo {x : Int} (h : x < -2147483648) : okB x = false := by unfold okB; rw [decide_eq_false_iff_not]; omega
theorem okB_hi {x : Int} (h : 2147483647 < x) : okB x = false := by unfold okB; rw [decide_eq_false_iff_not]; omega
theorem okB_yes {x : Int} (h : -2147483648 ≤ x) (h2 : x ≤ 2147483647) : okB x = true := by unfold okB; rw [decide_eq_true_iff]; omega
set_option maxHeartbeats 400000 in
theorem right_empty (a : Option Addr) (cap : Nat) (w : World) :
    Calls Tryz.prog 134 #[.slice a 0 cap] w fun e w' => e = .returned (.bool true) ∧ w = w' := by
  go_enter Tryz.func134, Tryz.ntmps134
  go_wp2
  go_loop [7] (fun i => i = .int .i64 0) (fun _ => 0)
  case atStart => rfl
  case round =>
    obtain rfl := hrel
    go_wp2
    go_ret
    exact ⟨rfl, rfl⟩

set_option maxHeartbeats 400000 in
theorem right_row (b off len cap : Nat) (zs : List Int) (w : World) (hl : zs.length = len) (hbig : len ≤ 9223372036854775807) (hc : ∀ j, j < len → w.cell? ⟨b, off + j, none⟩ = some (.int .i64 (zs.getD j 0))) :
    Calls Tryz.prog 134 #[.slice (some ⟨b, off, none⟩) len cap] w fun e w' => e = .returned (.bool (rightB zs)) ∧ w = w' := by
  have HL := Lib.hid hl
  have HC := Lib.hid hc
  clear hl hc
  go_enter Tryz.func134, Tryz.ntmps134
  go_wp2
  go_loop [7] (fun i => ∃ k : Nat, k ≤ len ∧ i = .int .i64 k ∧ rightB (zs.take k) = true) (fun i => len - (intOf i).toNat)
  case atStart => exact ⟨0, Nat.zero_le _, rfl, rfl⟩
  case round =>
    obtain ⟨k, hk, rfl, hr⟩ := hrel
    have HR := Lib.hid hr
    clear hr
    by_cases hlt : k < len
    · have hk' : k < zs.length := by rw [HL.out]; exact hlt
      obtain ⟨x, hx⟩ : ∃ x, x = zs.getD k 0 := ⟨_, rfl⟩
      have hcell := HC.out k hlt
      have H1 := Lib.hid (rightB_take_succ zs k hk')
      have H2 := Lib.hid (rightB_bad zs k hk')
      rw [← hx] at hcell
      rw [← hx] at H1 H2
      clear hx hk'
      by_cases hlo : x < -2147483648
      · go_wp2
        go_ret
        exact ⟨ret_bool (H2.out (okB_lo hlo)).symm, rfl⟩
      · by_cases hhi : 2147483647 < x
        · go_wp2
          go_ret
          exact ⟨ret_bool (H2.out (okB_hi hhi)).symm, rfl⟩
        · go_wp2
          go_round
          case rel => exact ⟨k + 1, by omega, by go_num, by rw [H1.out, HR.out, okB_yes (by omega) (by omega)]; rfl⟩
          case measure => simp [intOf]; omega
    · go_wp2
      go_ret
      have e : zs.take k = zs := List.take_of_length_le (by rw [HL.out]; omega)
      exact ⟨ret_bool (by rw [← HR.out, e]), rfl⟩

theorem right_any (a : Option Addr) (len cap : Nat) (zs : List Int) (w : World) (h : Row w a len zs) :
    Calls Tryz.prog 134 #[.slice a len cap] w fun e w' => e = .returned (.bool (rightB zs)) ∧ w = w' := by
  obtain ⟨hl, hm, h0 | ⟨b, off, rfl, hc⟩⟩ := h
  · subst h0
    obtain rfl := List.eq_nil_of_length_eq_zero hl
    exact right_empty a cap w
  · exact right_row b off len cap zs w hl hm hc

end Go.Proofs.YtcpgkkphibhdfaaGreat
/-
  What package fix's functions of one and two numbers answer: each returns what its plain Lean function says, and leaves all memory that was there as it was.
-/
namespace Go.Proofs.YtcpgkkphibhdfaaGreat
open Go.RowKit

theorem row1 (w : World) (x : Int) (t : TypeId) : Row (w.alloc (.cells #[.int .i64 x] t)) (some ⟨w.heap.size, 0, none⟩) 1 [x] := by
  refine ⟨rfl, by omega, Or.inr ⟨_, _, rfl, fun i hi => ?_⟩⟩
  obtain rfl : i = 0 := by omega
  simp [List.getD]

theorem row2 (w : World) (x y : Int) (t : TypeId) : Row (w.alloc (.cells #[.int .i64 x, .int .i64 y] t)) (some ⟨w.heap.size, 0, none⟩) 2 [x, y] := by
  refine ⟨rfl, by omega, Or.inr ⟨_, _, rfl, fun i hi => ?_⟩⟩
  obtain rfl | rfl : i = 0 ∨ i = 1 := by omega
  · simp [List.getD]
  · simp [List.getD]

theorem alloc_below (w : World) (o : Obj) : Below w.heap.size w (w.alloc o) := (Below.refl _ _).alloc (Nat.le_refl _) o

theorem bthen {w a b : World} (h : Below w.heap.size w a) (k : Below a.heap.size a b) : Below w.heap.size w b := h.trans (k.mono h.size)
theorem balloc {w a : World} (h : Below w.heap.size w a) (o : Obj) : Below w.heap.size w (a.alloc o) := h.alloc h.size o
end Go.Proofs.YtcpgkkphibhdfaaGreat
/-
  Plain arithmetic for package fix: floors of products and quotients.
-/
namespace Go.Proofs.YtcpgkkphibhdfaaGreat
set_option linter.unusedVariables false

end Go.Proofs.YtcpgkkphibhdfaaGreat
/-
  What package fix's functions of one and two numbers answer (second part).
-/
namespace Go.Proofs.YtcpgkkphibhdfaaGreat
open Go.RowKit

theorem below_drewN (w : World) (n : Nat) : Below w.heap.size w (w.drewN n) := Go.below_drewN (Below.refl _ _) n

end Go.Proofs.YtcpgkkphibhdfaaGreat
/-
  What package fix's sum answers, and that of its reference; whether numbers may be, by the reference.
-/
namespace Go.Proofs.YtcpgkkphibhdfaaGreat
open Go.RowKit

/-! plain facts on sums -/
/-! the reference -/
set_option maxHeartbeats 400000 in
theorem one_any (x : Int) (w : World) :
    Calls Tryz.prog 163 #[.int .i64 x] w fun e w' => e = .returned (.bool (okB x)) ∧ w = w' := by
  by_cases h1 : -2147483648 ≤ x
  · by_cases h2 : x ≤ 2147483647
    · rw [okB_yes h1 h2]
      go_enter Tryz.func163, Tryz.ntmps163
      go_wp2
      go_ret
      exact ⟨rfl, rfl⟩
    · rw [okB_hi (by omega)]
      go_enter Tryz.func163, Tryz.ntmps163
      go_wp2
      go_ret
      exact ⟨rfl, rfl⟩
  · rw [okB_lo (by omega)]
    go_enter Tryz.func163, Tryz.ntmps163
    go_wp2
    go_ret
    exact ⟨rfl, rfl⟩

set_option maxHeartbeats 400000 in
theorem rright_empty (a : Option Addr) (cap : Nat) (w : World) :
    Calls Tryz.prog 132 #[.slice a 0 cap] w fun e w' => e = .returned (.bool true) ∧ w = w' := by
  go_enter Tryz.func132, Tryz.ntmps132
  go_wp2
  go_loop [3] (fun i => i = .int .i64 0) (fun _ => 0)
  case atStart => rfl
  case round =>
    obtain rfl := hrel
    go_wp2
    go_ret
    exact ⟨rfl, rfl⟩

set_option maxHeartbeats 400000 in
theorem rright_row (b off len cap : Nat) (zs : List Int) (w : World) (hl : zs.length = len) (hbig : len ≤ 9223372036854775807) (hc : ∀ j, j < len → w.cell? ⟨b, off + j, none⟩ = some (.int .i64 (zs.getD j 0))) :
    Calls Tryz.prog 132 #[.slice (some ⟨b, off, none⟩) len cap] w fun e w' => e = .returned (.bool (rightB zs)) ∧ w = w' := by
  have HL := Lib.hid hl
  have HC := Lib.hid hc
  clear hl hc
  go_enter Tryz.func132, Tryz.ntmps132
  go_wp2
  go_loop [3] (fun i => ∃ k : Nat, k ≤ len ∧ i = .int .i64 k ∧ rightB (zs.take k) = true) (fun i => len - (intOf i).toNat)
  case atStart => exact ⟨0, Nat.zero_le _, rfl, rfl⟩
  case round =>
    obtain ⟨k, hk, rfl, hr⟩ := hrel
    have HR := Lib.hid hr
    clear hr
    by_cases hlt : k < len
    · have hk' : k < zs.length := by rw [HL.out]; exact hlt
      obtain ⟨x, hx⟩ : ∃ x, x = zs.getD k 0 := ⟨_, rfl⟩
      have hcell := HC.out k hlt
      have H1 := Lib.hid (rightB_take_succ zs k hk')
      have H2 := Lib.hid (rightB_bad zs k hk')
      rw [← hx] at hcell
      rw [← hx] at H1 H2
      clear hx hk'
      by_cases hok : okB x = true
      · go_wp2_with (go_at_call 163; refine (one_any _ _).mono ?_; rintro e w' ⟨rfl, rfl⟩)
        go_round
        case rel => exact ⟨k + 1, by omega, by go_num, by rw [H1.out, HR.out, hok]; rfl⟩
        case measure => simp [intOf]; omega
      · have hok' : okB x = false := by simpa using hok
        clear hok
        go_wp2_with (go_at_call 163; refine (one_any _ _).mono ?_; rintro e w' ⟨rfl, rfl⟩)
        go_ret
        exact ⟨ret_bool (H2.out hok').symm, rfl⟩
    · go_wp2
      go_ret
      have e : zs.take k = zs := List.take_of_length_le (by rw [HL.out]; omega)
      exact ⟨ret_bool (by rw [← HR.out, e]), rfl⟩

theorem rright_any (a : Option Addr) (len cap : Nat) (zs : List Int) (w : World) (h : Row w a len zs) :
    Calls Tryz.prog 132 #[.slice a len cap] w fun e w' => e = .returned (.bool (rightB zs)) ∧ w = w' := by
  obtain ⟨hl, hm, h0 | ⟨b, off, rfl, hc⟩⟩ := h
  · subst h0
    obtain rfl := List.eq_nil_of_length_eq_zero hl
    exact rright_empty a cap w
  · exact rright_row b off len cap zs w hl hm hc

end Go.Proofs.YtcpgkkphibhdfaaGreat
/-
  What the reference's functions of one and two numbers answer: the same plain Lean functions as package fix's.
-/
namespace Go.Proofs.YtcpgkkphibhdfaaGreat
open Go.RowKit

end Go.Proofs.YtcpgkkphibhdfaaGreat
