/-
  Parts as twenty-four cells (a function of the place, and whether it is clear); what the reference's Has, in and lay of layer 6 answer.
-/
import Derived.Test.YtpobnmcjmclgbaaMShp
namespace Go.Proofs.Ytpobnmcjmclgbaa
open Go.RowKit

/-! bits -/
theorem ofInt_nat (x : Int) : (BitVec.ofInt 64 x).toNat = (x % 18446744073709551616).toNat := by
  rw [BitVec.toNat_ofInt]; rfl
/-- the last i bits, of any integer -/
theorem and_mask (i : Nat) (hi : i ≤ 62) (x : Int) : bits .and .i64 x ((2 : Int) ^ i - 1) = x % 2 ^ i := by
  have hp : (0 : Nat) < 2 ^ i := Nat.two_pow_pos i
  have h62 : (2 : Nat) ^ i ≤ 2 ^ 62 := Nat.pow_le_pow_right (by omega) hi
  have hd : (2 : Int) ^ i ∣ 18446744073709551616 := by
    rw [show (18446744073709551616 : Int) = 2 ^ 64 by decide]
    exact ⟨2 ^ (64 - i), by rw [← Int.pow_add, show i + (64 - i) = 64 by omega]⟩
  have hc : ((2 : Int) ^ i - 1) = ((2 ^ i - 1 : Nat) : Int) := by rw [Int.ofNat_sub hp]; simp
  have h2 : (BitVec.ofInt 64 ((2 : Int) ^ i - 1)).toNat = 2 ^ i - 1 := by
    rw [hc, BitVec.ofInt_natCast, BitVec.toNat_ofNat]; exact Nat.mod_eq_of_lt (by omega)
  show IntKind.i64.wrap ((BitVec.ofInt 64 x &&& BitVec.ofInt 64 ((2 : Int) ^ i - 1)).toNat : Int) = _
  rw [BitVec.toNat_and, h2, ofInt_nat, Nat.and_two_pow_sub_one_eq_mod]
  have hq : (((x % 18446744073709551616).toNat % 2 ^ i : Nat) : Int) = x % 2 ^ i := by
    rw [Int.natCast_emod, Int.toNat_of_nonneg (Int.emod_nonneg _ (by decide))]
    rw [show ((2 ^ i : Nat) : Int) = (2 : Int) ^ i by simp]
    exact Int.emod_emod_of_dvd x hd
  rw [hq]
  have b0 : 0 ≤ x % 2 ^ i := Int.emod_nonneg _ (by have : (0 : Int) < 2 ^ i := by exact_mod_cast hp
                                                   omega)
  have b1 : x % 2 ^ i < 2 ^ i := Int.emod_lt_of_pos _ (by exact_mod_cast hp)
  have b2 : (2 : Int) ^ i ≤ 4611686018427387904 := by
    have : ((2 ^ i : Nat) : Int) ≤ ((2 ^ 62 : Nat) : Int) := by exact_mod_cast h62
    simpa using this
  exact IntWalk.i64_in _ (by omega)
theorem and1 (x : Int) : bits .and .i64 x 1 = x % 2 := and_mask 1 (by omega) x
theorem and7 (x : Int) : bits .and .i64 x 7 = x % 8 := and_mask 3 (by omega) x

/-- has a set a kind? -/
def hasN (s : Int) (k : Nat) : Bool := decide (s / 2 ^ k % 2 = 1)
def hasB (s k : Int) : Bool := decide (0 ≤ k) && decide (k ≤ 4) && hasN s k.toNat
theorem has_no {s k : Int} (h : k < 0 ∨ 4 < k) : hasB s k = false := by
  unfold hasB
  rcases h with h | h
  · rw [show decide (0 ≤ k) = false by simpa using h]; rfl
  · rw [show decide (k ≤ 4) = false by simpa using h]; simp
theorem has_yes {s : Int} {k : Nat} (h : k ≤ 4) : hasB s k = hasN s k := by
  unfold hasB
  rw [show decide ((0 : Int) ≤ (k : Int)) = true by simp, show decide ((k : Int) ≤ 4) = true by simp; omega]
  simp
theorem kind_cases (k : Int) : (k < 0) ∨ (4 < k) ∨ k = 0 ∨ k = 1 ∨ k = 2 ∨ k = 3 ∨ k = 4 := by omega

set_option maxHeartbeats 400000 in
theorem rhas_any (s k : Int) (w : World) :
    Calls Try.prog 18 #[.int .i64 s, .int .i64 k] w fun e w' => e = .returned (.bool (hasB s k)) ∧ w = w' := by
  have h1 := and1
  rcases kind_cases k with h | h | rfl | rfl | rfl | rfl | rfl
  · rw [has_no (.inl h)]
    go_enter Try.func18, Try.ntmps18
    go_wp2
    go_ret
    exact ⟨rfl, rfl⟩
  · rw [has_no (.inr h)]
    have h0 : 0 ≤ k := by omega
    go_enter Try.func18, Try.ntmps18
    go_wp2
    go_ret
    exact ⟨rfl, rfl⟩
  all_goals
    go_enter Try.func18, Try.ntmps18
    go_wp2
    go_ret
    exact ⟨by simp [hasB, hasN]; rfl, rfl⟩

def inB (n m : Int) : Bool := decide (0 ≤ n) && decide (n ≤ m)
set_option maxHeartbeats 400000 in
theorem rin_b (n m : Int) (w : World) :
    Calls Try.prog 22 #[.int .i64 n, .int .i64 m] w fun e w' => e = .returned (.bool (inB n m)) ∧ w = w' := by
  unfold inB
  by_cases h1 : 0 ≤ n
  · have g1 : decide (0 ≤ n) = true := by simpa using h1
    go_enter Try.func22, Try.ntmps22
    go_wp2
    go_ret
    exact ⟨by rw [g1]; rfl, rfl⟩
  · have g1 : decide (0 ≤ n) = false := by simpa using h1
    go_enter Try.func22, Try.ntmps22
    go_wp2
    go_ret
    exact ⟨rfl, rfl⟩

/-- a kind's places -/
def grp (k : Int) (j : Nat) : Bool := if k = 0 then decide (1 ≤ j ∧ j ≤ 12) else if k = 1 then decide (13 ≤ j ∧ j ≤ 19) else if k = 2 then decide (20 ≤ j ∧ j ≤ 22) else if k = 3 then decide (j = 23) else false
def layI (I J : Nat → Int) (k : Int) (j : Nat) : Int := if grp k j then J j else I j
def layC (c d : Bool) (k : Int) : Bool := if k = 2 then d else c

/-! a struct of many cells, as a list that is not laid open -/
def splice (X : List Value) (o : Nat) (vs : List Value) : List Value := X.take o ++ vs ++ X.drop (o + vs.length)
theorem splice_len {X : List Value} {o : Nat} {vs : List Value} (h : o + vs.length ≤ X.length) : (splice X o vs).length = X.length := by
  unfold splice; simp; omega
theorem splice_all {X Z : List Value} (h : X.length = Z.length) : splice Z 0 X = X := by
  unfold splice; rw [h]; simp
theorem blk_range {w : World} {g : Nat} {t : TypeId} {X : List Value} (h : Blk w g t X.toArray) (o n : Nat) : w.rangeAt g o ((X.drop o).take n) := fun j v hv => by
  rw [h.cell (o + j)]
  rw [List.getElem?_take] at hv
  by_cases c : j < n
  · rw [if_pos c, List.getElem?_drop] at hv
    simpa using hv
  · rw [if_neg c] at hv; cases hv
theorem blk_whole {w : World} {g : Nat} {t : TypeId} {X : List Value} (h : Blk w g t X.toArray) : w.rangeAt g 0 X := fun j v hv => by
  rw [h.cell (0 + j)]
  simpa using hv
theorem blk_there {w : World} {g : Nat} {t : TypeId} {X : List Value} (h : Blk w g t X.toArray) {o n : Nat} (hn : o + n ≤ X.length) : w.there g o n := fun j hj => by
  refine ⟨?_, h.frozen _⟩
  rw [h.cell (o + j)]
  simp [List.getElem?_eq_getElem (show o + j < X.length by omega)]
theorem blk_setCells : ∀ (vs : List Value) {w : World} {g : Nat} {t : TypeId} {X : List Value} {o : Nat}, Blk w g t X.toArray → o + vs.length ≤ X.length → Blk (w.setCells g o vs) g t (splice X o vs).toArray
  | [], w, g, t, X, o, h, _ => by
    have e : splice X o [] = X := by unfold splice; simp
    rw [e]
    exact h
  | v :: vs, w, g, t, X, o, h, hn => by
    have h1 : Blk (w.setCell ⟨g, o, none⟩ v) g t (X.set o v).toArray := by
      have := h.set_ o v
      simpa using this
    have h2 := blk_setCells vs (o := o + 1) h1 (by simp at hn ⊢; omega)
    have e : splice (X.set o v) (o + 1) vs = splice X o (v :: vs) := by
      have ho : o < X.length := by simp at hn; omega
      have ht : (X.take (o + 1)).set o v = X.take o ++ [v] := by
        rw [List.take_add_one, List.getElem?_eq_getElem ho, List.set_append, if_neg (by simp; omega), show o - (X.take o).length = 0 by simp; omega]
        rfl
      unfold splice
      rw [List.take_set, List.drop_set, if_pos (by omega), ht]
      simp [Nat.add_assoc, Nat.add_comm 1]
    rw [e] at h2
    exact h2
theorem blk_setFar : ∀ (vs : List Value) {w : World} {g g' : Nat} {t : TypeId} {C : Array Value} {o : Nat}, Blk w g t C → g ≠ g' → Blk (w.setCells g' o vs) g t C
  | [], _, _, _, _, _, _, h, _ => h
  | v :: vs, _, _, g', _, _, o, h, hne => blk_setFar vs (h.far (p := ⟨g', o, none⟩) hne v) hne
theorem below_setCells : ∀ (vs : List Value) {B : Nat} {a w : World} {g o : Nat}, Below B a w → B ≤ g → Below B a (w.setCells g o vs)
  | [], _, _, _, _, _, h, _ => h
  | v :: vs, _, _, _, g, o, h, hg => below_setCells vs (h.setCell (p := ⟨g, o, none⟩) hg v) hg

end Go.Proofs.Ytpobnmcjmclgbaa
