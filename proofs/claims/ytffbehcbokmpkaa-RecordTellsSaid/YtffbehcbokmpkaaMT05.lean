/-
  4 texts in one file, each with its own heading.
-/
import Derived.Test.YtffbehcbokmpkaaMT04
/-
  Parts as twenty-four cells (a function of the place, and whether it is clear); what the reference's Has, in and lay of layer 6 answer.
-/
namespace Go.Proofs.Ytffbehcbokmpkaa
open Go.RowKit

theorem ofInt_nat (x : Int) : (BitVec.ofInt 64 x).toNat = (x % 18446744073709551616).toNat := by
  rw [BitVec.toNat_ofInt]; rfl
theorem and_mask (i : Nat) (hi : i ≤ 62) (x : Int) : bits .and .i64 x ((2 : Int) ^ i - 1) = x % 2 ^ i := by
  have hp : (0 : Nat) < 2 ^ i := Nat.two_pow_pos i
  have h62 : (2 : Nat) ^ i ≤ 2 ^ 62 := Nat.pow_le_pow_right (by omega) hi
  have hd : (2 : Int) ^ i ∣ 18446744073709551616 := by
    rw [show (18446744073709551616 : Int) = 2 ^ 64 by decide]
    exact ⟨2 ^ (64 - i), by rw [← Int.pow_add, show i + (64 - i) = 64 by omega]⟩
  have hc : ((2 : Int) ^ i - 1) = ((2 ^ i - 1 : Nat) : Int) := by rw [Int.ofNat_sub hp]; simp
  have h2 : (BitVec.ofInt 64 ((2 : Int) ^ i - 1)).toNat = 2 ^ i - 1 := by
    rw [hc, BitVec.ofInt_natCast, BitVec.toNat_ofNat]; exact Nat.mod_eq_of_lt (by omega)
  show IntKind.i64.wrap ((BitVec.ofInt 64 x &&& BitVec.ofInt 64 ((2 : Int) ^ i - 1)).toNat : Int) = _
  rw [BitVec.toNat_and, h2, ofInt_nat, Nat.and_two_pow_sub_one_eq_mod]
  have hq : (((x % 18446744073709551616).toNat % 2 ^ i : Nat) : Int) = x % 2 ^ i := by
    rw [Int.natCast_emod, Int.toNat_of_nonneg (Int.emod_nonneg _ (by decide))]
    rw [show ((2 ^ i : Nat) : Int) = (2 : Int) ^ i by simp]
    exact Int.emod_emod_of_dvd x hd
  rw [hq]
  have b0 : 0 ≤ x % 2 ^ i := Int.emod_nonneg _ (by have : (0 : Int) < 2 ^ i := by exact_mod_cast hp
                                                   omega)
  have b1 : x % 2 ^ i < 2 ^ i := Int.emod_lt_of_pos _ (by exact_mod_cast hp)
  have b2 : (2 : Int) ^ i ≤ 4611686018427387904 := by
    have : ((2 ^ i : Nat) : Int) ≤ ((2 ^ 62 : Nat) : Int) := by exact_mod_cast h62
    simpa using this
  exact IntWalk.i64_in _ (by omega)
theorem and1 (x : Int) : bits .and .i64 x 1 = x % 2 := and_mask 1 (by omega) x
theorem and7 (x : Int) : bits .and .i64 x 7 = x % 8 := and_mask 3 (by omega) x

def hasN (s : Int) (k : Nat) : Bool := decide (s / 2 ^ k % 2 = 1)
def hasB (s k : Int) : Bool := decide (0 ≤ k) && decide (k ≤ 4) && hasN s k.toNat
theorem has_no {s k : Int} (h : k < 0 ∨ 4 < k) : hasB s k = false := by
  unfold hasB
  rcases h with h | h
  · rw [show decide (0 ≤ k) = false by simpa using h]; rfl
  · rw [show decide (k ≤ 4) = false by simpa using h]; simp
theorem has_yes {s : Int} {k : Nat} (h : k ≤ 4) : hasB s k = hasN s k := by
  unfold hasB
  rw [show decide ((0 : Int) ≤ (k : Int)) = true by simp, show decide ((k : Int) ≤ 4) = true by simp; omega]
  simp
theorem kind_cases (k : Int) : (k < 0) ∨ (4 < k) ∨ k = 0 ∨ k = 1 ∨ k = 2 ∨ k = 3 ∨ k = 4 := by omega

set_option maxHeartbeats 400000 in
theorem rhas_any (s k : Int) (w : World) :
    Calls Try.prog 22 #[.int .i64 s, .int .i64 k] w fun e w' => e = .returned (.bool (hasB s k)) ∧ w = w' := by
  have h1 := and1
  rcases kind_cases k with h | h | rfl | rfl | rfl | rfl | rfl
  · rw [has_no (.inl h)]
    go_enter Try.func22, Try.ntmps22
    go_wp2
    go_ret
    exact ⟨rfl, rfl⟩
  · rw [has_no (.inr h)]
    have h0 : 0 ≤ k := by omega
    go_enter Try.func22, Try.ntmps22
    go_wp2
    go_ret
    exact ⟨rfl, rfl⟩
  all_goals
    go_enter Try.func22, Try.ntmps22
    go_wp2
    go_ret
    exact ⟨by simp [hasB, hasN]; rfl, rfl⟩

def inB (n m : Int) : Bool := decide (0 ≤ n) && decide (n ≤ m)
set_option maxHeartbeats 400000 in
theorem rin_b (n m : Int) (w : World) :
    Calls Try.prog 57 #[.int .i64 n, .int .i64 m] w fun e w' => e = .returned (.bool (inB n m)) ∧ w = w' := by
  unfold inB
  by_cases h1 : 0 ≤ n
  · have g1 : decide (0 ≤ n) = true := by simpa using h1
    go_enter Try.func57, Try.ntmps57
    go_wp2
    go_ret
    exact ⟨by rw [g1]; rfl, rfl⟩
  · have g1 : decide (0 ≤ n) = false := by simpa using h1
    go_enter Try.func57, Try.ntmps57
    go_wp2
    go_ret
    exact ⟨rfl, rfl⟩

def splice (X : List Value) (o : Nat) (vs : List Value) : List Value := X.take o ++ vs ++ X.drop (o + vs.length)
theorem splice_len {X : List Value} {o : Nat} {vs : List Value} (h : o + vs.length ≤ X.length) : (splice X o vs).length = X.length := by
  unfold splice; simp; omega
theorem splice_all {X Z : List Value} (h : X.length = Z.length) : splice Z 0 X = X := by
  unfold splice; rw [h]; simp
theorem blk_range {w : World} {g : Nat} {t : TypeId} {X : List Value} (h : Blk w g t X.toArray) (o n : Nat) : w.rangeAt g o ((X.drop o).take n) := fun j v hv => by
  rw [h.cell (o + j)]
  rw [List.getElem?_take] at hv
  by_cases c : j < n
  · rw [if_pos c, List.getElem?_drop] at hv
    simpa using hv
  · rw [if_neg c] at hv; cases hv
theorem blk_whole {w : World} {g : Nat} {t : TypeId} {X : List Value} (h : Blk w g t X.toArray) : w.rangeAt g 0 X := fun j v hv => by
  rw [h.cell (0 + j)]
  simpa using hv
theorem blk_there {w : World} {g : Nat} {t : TypeId} {X : List Value} (h : Blk w g t X.toArray) {o n : Nat} (hn : o + n ≤ X.length) : w.there g o n := fun j hj => by
  refine ⟨?_, h.frozen _⟩
  rw [h.cell (o + j)]
  simp [List.getElem?_eq_getElem (show o + j < X.length by omega)]
theorem blk_setCells : ∀ (vs : List Value) {w : World} {g : Nat} {t : TypeId} {X : List Value} {o : Nat}, Blk w g t X.toArray → o + vs.length ≤ X.length → Blk (w.setCells g o vs) g t (splice X o vs).toArray
  | [], w, g, t, X, o, h, _ => by
    have e : splice X o [] = X := by unfold splice; simp
    rw [e]
    exact h
  | v :: vs, w, g, t, X, o, h, hn => by
    have h1 : Blk (w.setCell ⟨g, o, none⟩ v) g t (X.set o v).toArray := by
      have := h.set_ o v
      simpa using this
    have h2 := blk_setCells vs (o := o + 1) h1 (by simp at hn ⊢; omega)
    have e : splice (X.set o v) (o + 1) vs = splice X o (v :: vs) := by
      have ho : o < X.length := by simp at hn; omega
      have ht : (X.take (o + 1)).set o v = X.take o ++ [v] := by
        rw [List.take_add_one, List.getElem?_eq_getElem ho, List.set_append, if_neg (by simp; omega), show o - (X.take o).length = 0 by simp; omega]
        rfl
      unfold splice
      rw [List.take_set, List.drop_set, if_pos (by omega), ht]
      simp [Nat.add_assoc, Nat.add_comm 1]
    rw [e] at h2
    exact h2
theorem blk_setFar : ∀ (vs : List Value) {w : World} {g g' : Nat} {t : TypeId} {C : Array Value} {o : Nat}, Blk w g t C → g ≠ g' → Blk (w.setCells g' o vs) g t C
  | [], _, _, _, _, _, _, h, _ => h
  | v :: vs, _, _, g', _, _, o, h, hne => blk_setFar vs (h.far (p := ⟨g', o, none⟩) hne v) hne
theorem below_setCells : ∀ (vs : List Value) {B : Nat} {a w : World} {g o : Nat}, Below B a w → B ≤ g → Below B a (w.setCells g o vs)
  | [], _, _, _, _, _, h, _ => h
  | v :: vs, _, _, _, g, o, h, hg => below_setCells vs (h.setCell (p := ⟨g, o, none⟩) hg v) hg

def PL (h : Int) (M : Nat → Int) (m : Int) (B : Nat → Int) (p a : Int) (c : Bool) (l : Int) : List Value := [.int .i64 h, .int .i64 (M 0), .int .i64 (M 1), .int .i64 (M 2), .int .i64 (M 3), .int .i64 (M 4), .int .i64 (M 5), .int .i64 (M 6), .int .i64 (M 7), .int .i64 (M 8), .int .i64 (M 9), .int .i64 (M 10), .int .i64 (M 11), .int .i64 m, .int .i64 (B 0), .int .i64 (B 1), .int .i64 (B 2), .int .i64 (B 3), .int .i64 (B 4), .int .i64 (B 5), .int .i64 p, .int .i64 a, .bool c, .int .i64 l]
theorem PL_len (h : Int) (M : Nat → Int) (m : Int) (B : Nat → Int) (p a : Int) (c : Bool) (l : Int) : (PL h M m B p a c l).length = 24 := rfl
theorem PL_one (h : Int) (M : Nat → Int) (m : Int) (B : Nat → Int) (p a : Int) (c : Bool) (l : Int) : (PL h M m B p a c l).toArray.all (·.oneCell') = true := all_oneCell_toArray (fun v hv => by
  unfold PL at hv
  simp only [List.mem_cons, List.not_mem_nil, or_false] at hv
  rcases hv with rfl | rfl | rfl | rfl | rfl | rfl | rfl | rfl | rfl | rfl | rfl | rfl | rfl | rfl | rfl | rfl | rfl | rfl | rfl | rfl | rfl | rfl | rfl | rfl <;> rfl)
theorem size_parts (h : Int) (M : Nat → Int) (m : Int) (B : Nat → Int) (p a : Int) (c : Bool) (l : Int) : (Try.prog.info? 32).map (·.size) = some (PL h M m B p a c l).length := by rw [PL_len]; kernel_rfl
def Z24 : List Value := PL 0 (fun _ => 0) 0 (fun _ => 0) 0 0 false 0

theorem results_cell {fn : Func} {tmps : Array Value} {s : Tmp} {t : TypeId} {g : Nat} {v : Value} {w : World} (hr : fn.results = #[.cell s t]) (hp : tmps.getD s undef = .pointer (some ⟨g, 0, none⟩)) (hl : (loadVar t ⟨g, 0, none⟩).run Try.prog w = .ok v w) : (results fn tmps).run Try.prog w = .ok v w := by
  unfold results
  rw [hr]
  have hp' : tmps[s]?.getD undef = .pointer (some ⟨g, 0, none⟩) := by simpa using hp
  simp [hp', hl, asAddr]
theorem results_cell2 {fn : Func} {tmps : Array Value} {s r : Tmp} {t : TypeId} {g : Nat} {v u : Value} {w : World} (hr : fn.results = #[.cell s t, .tmp r]) (hp : tmps.getD s undef = .pointer (some ⟨g, 0, none⟩)) (hu : tmps.getD r undef = u) (hl : (loadVar t ⟨g, 0, none⟩).run Try.prog w = .ok v w) : (results fn tmps).run Try.prog w = .ok (.tuple #[v, u]) w := by
  unfold results
  rw [hr]
  have hp' : tmps[s]?.getD undef = .pointer (some ⟨g, 0, none⟩) := by simpa using hp
  have hu' : tmps[r]?.getD undef = u := by simpa using hu
  simp [hp', hu', hl, asAddr]

set_option maxHeartbeats 1000000 in
theorem rlay_hide (h : Int) (M : Nat → Int) (m : Int) (B : Nat → Int) (p a : Int) (c : Bool) (l : Int) (Y : List Value) (k : Int) (w : World) (hk : k < 0 ∨ 3 < k) :
    Calls Try.prog 56 #[.agg (PL h M m B p a c l).toArray, .agg Y.toArray, .int .i64 k] w fun e w' => e = .returned (.agg (PL h M m B p a c l).toArray) ∧ Below w.heap.size w w' := by
  have hn0 : (k == 0) = false := by simp; omega
  have hn1 : (k == 1) = false := by simp; omega
  have hn2 : (k == 2) = false := by simp; omega
  have hn3 : (k == 3) = false := by simp; omega
  have HS := Lib.hid (size_parts h M m B p a c l)
  have HO := Lib.hid (PL_one h M m B p a c l)
  have HL := Lib.hid (PL_len h M m B p a c l)
  obtain ⟨X, hX⟩ : ∃ X, X = PL h M m B p a c l := ⟨_, rfl⟩
  rw [← hX] at HS HO HL
  rw [← hX]
  clear hX
  have KP := Lib.hid (fun o => ((Blk.new w 32 X.toArray).alloc (.cells Y.toArray 32)).alloc o)
  have KR := Lib.hid (blkAt (Blk.new ((w.alloc (.cells X.toArray 32)).alloc (.cells Y.toArray 32)) 32 Z24.toArray) (g' := w.heap.size + 1 + 1) (by simp))
  have HZ := Lib.hid (show Z24.length = 24 from rfl)
  go_enter Try.func56, Try.ntmps56
  go_wp2_with (first | refine wpList_store_mid rfl 32 (.tmp 6) (.tmp 37) rfl (w.heap.size + 1 + 1) 0 X.toArray rfl rfl (blk_there KR.out (by simp [HL.out, HZ.out])) (by simpa using HS.out) HO.out ?_ | refine wpList_load_mid rfl 32 (.tmp 3) rfl w.heap.size 0 rfl X _ (blk_whole (KP.out _)) Try.underlying32 rfl HS.out ?_)
  have KW := Lib.hid (splice_all (X := X) (Z := Z24) (by rw [HL.out, HZ.out]) ▸ blk_setCells X KR.out (by rw [HL.out, HZ.out]; exact Nat.le_refl _))
  refine fin (fun W => Blk W (w.heap.size + 1 + 1) 32 X.toArray ∧ Below w.heap.size w W) ⟨KW.out, below_setCells X (balloc (balloc (alloc_below _ _) _) _) (by omega)⟩ ?_
  rintro W ⟨kr, hb⟩
  have hl := run_loadVar_mid W (w.heap.size + 1 + 1) 0 32 X _ (blk_whole kr) Try.underlying32 rfl HS.out
  simp only [Act.put, List.setIfInBounds_toArray, List.set_cons_zero, List.set_cons_succ]
  exact bodyPost_ret (v := .agg X.toArray) (results_cell Try.results56 rfl hl) rfl ⟨rfl, hb⟩

set_option maxHeartbeats 1000000 in
theorem rlay_place (X Y X' : List Value) (V : List Value) (hV : (Y.drop 1).take 12 = V) (hV2 : V.length = 12) (hV3 : V.toArray.all (·.oneCell') = true) (hs : splice X 1 V = X') (w : World) (hX : X.length = 24) (hX' : X'.length = 24) (ho : X'.toArray.all (·.oneCell') = true) :
    Calls Try.prog 56 #[.agg X.toArray, .agg Y.toArray, .int .i64 0] w fun e w' => e = .returned (.agg X'.toArray) ∧ Below w.heap.size w w' := by
  have HO := Lib.hid ho
  have HS : Hid ((Try.prog.info? 32).map (·.size) = some X'.length) := Lib.hid (by rw [hX']; kernel_rfl)
  have HS' : Hid ((Try.prog.info? 32).map (·.size) = some X'.toArray.size) := Lib.hid (by rw [List.size_toArray, hX']; kernel_rfl)
  have HZ : Hid (0 + X'.toArray.size ≤ Z24.length) := Lib.hid (by rw [List.size_toArray, hX']; exact Nat.le_refl 24)
  have HZ2 : Hid (0 + X'.length ≤ Z24.length) := Lib.hid (by rw [hX']; exact Nat.le_refl 24)
  have HZ3 : Hid (X'.length = Z24.length) := Lib.hid (by rw [hX']; rfl)
  have K0 := Lib.hid (((Blk.new w 32 X.toArray).alloc (.cells Y.toArray 32)).alloc (.cells Z24.toArray 32))
  have KQ := Lib.hid (blkAt ((Blk.new (w.alloc (.cells X.toArray 32)) 32 Y.toArray).alloc (.cells Z24.toArray 32)) (g' := w.heap.size + 1) (by simp))
  have KR := Lib.hid (blkAt (Blk.new ((w.alloc (.cells X.toArray 32)).alloc (.cells Y.toArray 32)) 32 Z24.toArray) (g' := w.heap.size + 1 + 1) (by simp))
  have HS2 : Hid ((Try.prog.info? 26).map (·.size) = some V.length) := Lib.hid (by rw [hV2]; kernel_rfl)
  have HS3 : Hid ((Try.prog.info? 26).map (·.size) = some V.toArray.size) := Lib.hid (by rw [List.size_toArray, hV2]; kernel_rfl)
  have HO3 := Lib.hid hV3
  have HR3 : Hid ((((w.alloc (.cells X.toArray 32)).alloc (.cells Y.toArray 32)).alloc (.cells Z24.toArray 32)).rangeAt (w.heap.size + 1) 1 V) := Lib.hid (hV ▸ blk_range KQ.out 1 12)
  have HT3 : Hid ((((w.alloc (.cells X.toArray 32)).alloc (.cells Y.toArray 32)).alloc (.cells Z24.toArray 32)).there w.heap.size 1 V.toArray.size) := Lib.hid (blk_there K0.out (by rw [List.size_toArray, hV2, hX]; omega))
  have KP2 : Hid (Blk ((((w.alloc (.cells X.toArray 32)).alloc (.cells Y.toArray 32)).alloc (.cells Z24.toArray 32)).setCells w.heap.size 1 V) w.heap.size 32 X'.toArray) := Lib.hid (hs ▸ blk_setCells V K0.out (by rw [hV2, hX]; omega))
  have KR2 : Hid (Blk ((((w.alloc (.cells X.toArray 32)).alloc (.cells Y.toArray 32)).alloc (.cells Z24.toArray 32)).setCells w.heap.size 1 V) (w.heap.size + 1 + 1) 32 Z24.toArray) := Lib.hid (blk_setFar V KR.out (by omega))
  have HB2 : Hid (Below w.heap.size w ((((w.alloc (.cells X.toArray 32)).alloc (.cells Y.toArray 32)).alloc (.cells Z24.toArray 32)).setCells w.heap.size 1 V)) := Lib.hid (below_setCells V (balloc (balloc (alloc_below _ _) _) _) (Nat.le_refl _))
  clear ho hX hX'
  go_enter Try.func56, Try.ntmps56
  go_wp2_with (first | refine wpList_load_mid rfl 26 (.tmp 10) rfl (w.heap.size + 1) 1 rfl V _ HR3.out Try.underlying26 rfl HS2.out ?_ | refine wpList_store_mid rfl 26 (.tmp 12) (.tmp 11) rfl w.heap.size 1 V.toArray rfl rfl HT3.out HS3.out HO3.out ?_ | refine wpList_store_mid rfl 32 (.tmp 6) (.tmp 37) rfl (w.heap.size + 1 + 1) 0 X'.toArray rfl rfl (blk_there KR2.out HZ.out) HS'.out HO.out ?_ | refine wpList_load_mid rfl 32 (.tmp 3) rfl w.heap.size 0 rfl X' _ (blk_whole KP2.out) Try.underlying32 rfl HS.out ?_)
  have KW := Lib.hid (splice_all HZ3.out ▸ blk_setCells X' KR2.out HZ2.out)
  refine fin (fun W => Blk W (w.heap.size + 1 + 1) 32 X'.toArray ∧ Below w.heap.size w W) ⟨KW.out, below_setCells _ HB2.out (by omega)⟩ ?_
  rintro W ⟨kr, hb⟩
  have hl := run_loadVar_mid W (w.heap.size + 1 + 1) 0 32 X' _ (blk_whole kr) Try.underlying32 rfl HS.out
  simp only [Act.put, List.setIfInBounds_toArray, List.set_cons_zero, List.set_cons_succ]
  exact bodyPost_ret (v := .agg X'.toArray) (results_cell Try.results56 rfl hl) rfl ⟨rfl, hb⟩

set_option maxHeartbeats 1000000 in
theorem rlay_shape (X Y X' : List Value) (V : List Value) (m2 : Int) (x13 : Value) (hx13 : X[13]? = some x13) (hy13 : Y[13]? = some (.int .i64 m2)) (hV : (Y.drop 14).take 6 = V) (hV2 : V.length = 6) (hV3 : V.toArray.all (·.oneCell') = true) (hs : splice (X.set 13 (.int .i64 m2)) 14 V = X') (w : World) (hX : X.length = 24) (hX' : X'.length = 24) (ho : X'.toArray.all (·.oneCell') = true) :
    Calls Try.prog 56 #[.agg X.toArray, .agg Y.toArray, .int .i64 1] w fun e w' => e = .returned (.agg X'.toArray) ∧ Below w.heap.size w w' := by
  have HO := Lib.hid ho
  have HS : Hid ((Try.prog.info? 32).map (·.size) = some X'.length) := Lib.hid (by rw [hX']; kernel_rfl)
  have HS' : Hid ((Try.prog.info? 32).map (·.size) = some X'.toArray.size) := Lib.hid (by rw [List.size_toArray, hX']; kernel_rfl)
  have HZ : Hid (0 + X'.toArray.size ≤ Z24.length) := Lib.hid (by rw [List.size_toArray, hX']; exact Nat.le_refl 24)
  have HZ2 : Hid (0 + X'.length ≤ Z24.length) := Lib.hid (by rw [hX']; exact Nat.le_refl 24)
  have HZ3 : Hid (X'.length = Z24.length) := Lib.hid (by rw [hX']; rfl)
  have K0 := Lib.hid (((Blk.new w 32 X.toArray).alloc (.cells Y.toArray 32)).alloc (.cells Z24.toArray 32))
  have KQ := Lib.hid (blkAt ((Blk.new (w.alloc (.cells X.toArray 32)) 32 Y.toArray).alloc (.cells Z24.toArray 32)) (g' := w.heap.size + 1) (by simp))
  have KR := Lib.hid (blkAt (Blk.new ((w.alloc (.cells X.toArray 32)).alloc (.cells Y.toArray 32)) 32 Z24.toArray) (g' := w.heap.size + 1 + 1) (by simp))
  have HS2 : Hid ((Try.prog.info? 30).map (·.size) = some V.length) := Lib.hid (by rw [hV2]; kernel_rfl)
  have HS3 : Hid ((Try.prog.info? 30).map (·.size) = some V.toArray.size) := Lib.hid (by rw [List.size_toArray, hV2]; kernel_rfl)
  have HO3 := Lib.hid hV3
  have q13 : (((w.alloc (.cells X.toArray 32)).alloc (.cells Y.toArray 32)).alloc (.cells Z24.toArray 32)).cell? ⟨w.heap.size + 1, 13, none⟩ = some (.int .i64 m2) := by rw [KQ.out.cell 13]; simpa using hy13
  have p13 : (((w.alloc (.cells X.toArray 32)).alloc (.cells Y.toArray 32)).alloc (.cells Z24.toArray 32)).cell? ⟨w.heap.size, 13, none⟩ = some x13 := by rw [K0.out.cell 13]; simpa using hx13
  have f13 : (((w.alloc (.cells X.toArray 32)).alloc (.cells Y.toArray 32)).alloc (.cells Z24.toArray 32)).frozen? ⟨w.heap.size, 13, none⟩ = false := K0.out.frozen 13
  have K1 : Hid (Blk (((w.alloc (.cells (X.set 13 (.int .i64 m2)).toArray 32)).alloc (.cells Y.toArray 32)).alloc (.cells Z24.toArray 32)) w.heap.size 32 (X.set 13 (.int .i64 m2)).toArray) := Lib.hid (((Blk.new w 32 (X.set 13 (.int .i64 m2)).toArray).alloc (.cells Y.toArray 32)).alloc (.cells Z24.toArray 32))
  have HR3 : Hid ((((w.alloc (.cells (X.set 13 (.int .i64 m2)).toArray 32)).alloc (.cells Y.toArray 32)).alloc (.cells Z24.toArray 32)).rangeAt (w.heap.size + 1) 14 V) := Lib.hid (hV ▸ blk_range (blkAt ((Blk.new (w.alloc (.cells (X.set 13 (.int .i64 m2)).toArray 32)) 32 Y.toArray).alloc (.cells Z24.toArray 32)) (g' := w.heap.size + 1) (by simp)) 14 6)
  have HT3 : Hid ((((w.alloc (.cells (X.set 13 (.int .i64 m2)).toArray 32)).alloc (.cells Y.toArray 32)).alloc (.cells Z24.toArray 32)).there w.heap.size 14 V.toArray.size) := Lib.hid (blk_there K1.out (by rw [List.size_toArray, List.length_set, hV2, hX]; omega))
  have KP2 : Hid (Blk ((((w.alloc (.cells (X.set 13 (.int .i64 m2)).toArray 32)).alloc (.cells Y.toArray 32)).alloc (.cells Z24.toArray 32)).setCells w.heap.size 14 V) w.heap.size 32 X'.toArray) := Lib.hid (hs ▸ blk_setCells V K1.out (by rw [List.length_set, hV2, hX]; omega))
  have KR2 : Hid (Blk ((((w.alloc (.cells (X.set 13 (.int .i64 m2)).toArray 32)).alloc (.cells Y.toArray 32)).alloc (.cells Z24.toArray 32)).setCells w.heap.size 14 V) (w.heap.size + 1 + 1) 32 Z24.toArray) := Lib.hid (blk_setFar V (blkAt (Blk.new ((w.alloc (.cells (X.set 13 (.int .i64 m2)).toArray 32)).alloc (.cells Y.toArray 32)) 32 Z24.toArray) (g' := w.heap.size + 1 + 1) (by simp)) (by omega))
  have HB2 : Hid (Below w.heap.size w ((((w.alloc (.cells (X.set 13 (.int .i64 m2)).toArray 32)).alloc (.cells Y.toArray 32)).alloc (.cells Z24.toArray 32)).setCells w.heap.size 14 V)) := Lib.hid (below_setCells V (balloc (balloc (alloc_below _ _) _) _) (Nat.le_refl _))
  clear ho hX hX'
  go_enter Try.func56, Try.ntmps56
  go_wp2_with (first | refine wpList_load_mid rfl 30 (.tmp 18) rfl (w.heap.size + 1) 14 rfl V _ HR3.out Try.underlying30 rfl HS2.out ?_ | refine wpList_store_mid rfl 30 (.tmp 20) (.tmp 19) rfl w.heap.size 14 V.toArray rfl rfl HT3.out HS3.out HO3.out ?_ | refine wpList_store_mid rfl 32 (.tmp 6) (.tmp 37) rfl (w.heap.size + 1 + 1) 0 X'.toArray rfl rfl (blk_there KR2.out HZ.out) HS'.out HO.out ?_ | refine wpList_load_mid rfl 32 (.tmp 3) rfl w.heap.size 0 rfl X' _ (blk_whole KP2.out) Try.underlying32 rfl HS.out ?_)
  have KW := Lib.hid (splice_all HZ3.out ▸ blk_setCells X' KR2.out HZ2.out)
  refine fin (fun W => Blk W (w.heap.size + 1 + 1) 32 X'.toArray ∧ Below w.heap.size w W) ⟨KW.out, below_setCells _ HB2.out (by omega)⟩ ?_
  rintro W ⟨kr, hb⟩
  have hl := run_loadVar_mid W (w.heap.size + 1 + 1) 0 32 X' _ (blk_whole kr) Try.underlying32 rfl HS.out
  simp only [Act.put, List.setIfInBounds_toArray, List.set_cons_zero, List.set_cons_succ]
  exact bodyPost_ret (v := .agg X'.toArray) (results_cell Try.results56 rfl hl) rfl ⟨rfl, hb⟩

set_option maxHeartbeats 1000000 in
theorem rlay_paint (X Y X' : List Value) (p2 a2 : Int) (c2 : Bool) (x20 x21 x22 : Value) (hx20 : X[20]? = some x20) (hx21 : X[21]? = some x21) (hx22 : X[22]? = some x22) (hy20 : Y[20]? = some (.int .i64 p2)) (hy21 : Y[21]? = some (.int .i64 a2)) (hy22 : Y[22]? = some (.bool c2)) (hs : ((X.set 20 (.int .i64 p2)).set 21 (.int .i64 a2)).set 22 (.bool c2) = X') (w : World) (hX' : X'.length = 24) (ho : X'.toArray.all (·.oneCell') = true) :
    Calls Try.prog 56 #[.agg X.toArray, .agg Y.toArray, .int .i64 2] w fun e w' => e = .returned (.agg X'.toArray) ∧ Below w.heap.size w w' := by
  have HO := Lib.hid ho
  have HS : Hid ((Try.prog.info? 32).map (·.size) = some X'.length) := Lib.hid (by rw [hX']; kernel_rfl)
  have HS' : Hid ((Try.prog.info? 32).map (·.size) = some X'.toArray.size) := Lib.hid (by rw [List.size_toArray, hX']; kernel_rfl)
  have HZ : Hid (0 + X'.toArray.size ≤ Z24.length) := Lib.hid (by rw [List.size_toArray, hX']; exact Nat.le_refl 24)
  have HZ2 : Hid (0 + X'.length ≤ Z24.length) := Lib.hid (by rw [hX']; exact Nat.le_refl 24)
  have HZ3 : Hid (X'.length = Z24.length) := Lib.hid (by rw [hX']; rfl)
  have K0 := Lib.hid (((Blk.new w 32 X.toArray).alloc (.cells Y.toArray 32)).alloc (.cells Z24.toArray 32))
  have KQ := Lib.hid (blkAt ((Blk.new (w.alloc (.cells X.toArray 32)) 32 Y.toArray).alloc (.cells Z24.toArray 32)) (g' := w.heap.size + 1) (by simp))
  have KR := Lib.hid (blkAt (Blk.new ((w.alloc (.cells X.toArray 32)).alloc (.cells Y.toArray 32)) 32 Z24.toArray) (g' := w.heap.size + 1 + 1) (by simp))
  have q20 : (((w.alloc (.cells X.toArray 32)).alloc (.cells Y.toArray 32)).alloc (.cells Z24.toArray 32)).cell? ⟨w.heap.size + 1, 20, none⟩ = some (.int .i64 p2) := by rw [KQ.out.cell 20]; simpa using hy20
  have p20 : (((w.alloc (.cells X.toArray 32)).alloc (.cells Y.toArray 32)).alloc (.cells Z24.toArray 32)).cell? ⟨w.heap.size, 20, none⟩ = some x20 := by rw [K0.out.cell 20]; simpa using hx20
  have f20 : (((w.alloc (.cells X.toArray 32)).alloc (.cells Y.toArray 32)).alloc (.cells Z24.toArray 32)).frozen? ⟨w.heap.size, 20, none⟩ = false := K0.out.frozen 20
  have q21 : (((w.alloc (.cells X.toArray 32)).alloc (.cells Y.toArray 32)).alloc (.cells Z24.toArray 32)).cell? ⟨w.heap.size + 1, 21, none⟩ = some (.int .i64 a2) := by rw [KQ.out.cell 21]; simpa using hy21
  have p21 : (((w.alloc (.cells X.toArray 32)).alloc (.cells Y.toArray 32)).alloc (.cells Z24.toArray 32)).cell? ⟨w.heap.size, 21, none⟩ = some x21 := by rw [K0.out.cell 21]; simpa using hx21
  have f21 : (((w.alloc (.cells X.toArray 32)).alloc (.cells Y.toArray 32)).alloc (.cells Z24.toArray 32)).frozen? ⟨w.heap.size, 21, none⟩ = false := K0.out.frozen 21
  have q22 : (((w.alloc (.cells X.toArray 32)).alloc (.cells Y.toArray 32)).alloc (.cells Z24.toArray 32)).cell? ⟨w.heap.size + 1, 22, none⟩ = some (.bool c2) := by rw [KQ.out.cell 22]; simpa using hy22
  have p22 : (((w.alloc (.cells X.toArray 32)).alloc (.cells Y.toArray 32)).alloc (.cells Z24.toArray 32)).cell? ⟨w.heap.size, 22, none⟩ = some x22 := by rw [K0.out.cell 22]; simpa using hx22
  have f22 : (((w.alloc (.cells X.toArray 32)).alloc (.cells Y.toArray 32)).alloc (.cells Z24.toArray 32)).frozen? ⟨w.heap.size, 22, none⟩ = false := K0.out.frozen 22
  have KP2 : Hid (Blk (((w.alloc (.cells X'.toArray 32)).alloc (.cells Y.toArray 32)).alloc (.cells Z24.toArray 32)) w.heap.size 32 X'.toArray) := Lib.hid (((Blk.new w 32 X'.toArray).alloc (.cells Y.toArray 32)).alloc (.cells Z24.toArray 32))
  have KR2 : Hid (Blk (((w.alloc (.cells X'.toArray 32)).alloc (.cells Y.toArray 32)).alloc (.cells Z24.toArray 32)) (w.heap.size + 1 + 1) 32 Z24.toArray) := Lib.hid (blkAt (Blk.new ((w.alloc (.cells X'.toArray 32)).alloc (.cells Y.toArray 32)) 32 Z24.toArray) (g' := w.heap.size + 1 + 1) (by simp))
  have HB2 : Hid (Below w.heap.size w (((w.alloc (.cells X'.toArray 32)).alloc (.cells Y.toArray 32)).alloc (.cells Z24.toArray 32))) := Lib.hid (balloc (balloc (alloc_below _ _) _) _)
  clear ho hX'
  go_enter Try.func56, Try.ntmps56
  go_wp2_with (first | refine wpList_store_mid rfl 32 (.tmp 6) (.tmp 37) rfl (w.heap.size + 1 + 1) 0 X'.toArray rfl rfl (blk_there KR2.out HZ.out) HS'.out HO.out ?_ | refine wpList_load_mid rfl 32 (.tmp 3) rfl w.heap.size 0 rfl X' _ (blk_whole KP2.out) Try.underlying32 rfl HS.out ?_)
  have KW := Lib.hid (splice_all HZ3.out ▸ blk_setCells X' KR2.out HZ2.out)
  refine fin (fun W => Blk W (w.heap.size + 1 + 1) 32 X'.toArray ∧ Below w.heap.size w W) ⟨KW.out, below_setCells _ HB2.out (by omega)⟩ ?_
  rintro W ⟨kr, hb⟩
  have hl := run_loadVar_mid W (w.heap.size + 1 + 1) 0 32 X' _ (blk_whole kr) Try.underlying32 rfl HS.out
  simp only [Act.put, List.setIfInBounds_toArray, List.set_cons_zero, List.set_cons_succ]
  exact bodyPost_ret (v := .agg X'.toArray) (results_cell Try.results56 rfl hl) rfl ⟨rfl, hb⟩

set_option maxHeartbeats 1000000 in
theorem rlay_layer (X Y X' : List Value) (l2 : Int) (x23 : Value) (hx23 : X[23]? = some x23) (hy23 : Y[23]? = some (.int .i64 l2)) (hs : X.set 23 (.int .i64 l2) = X') (w : World) (hX' : X'.length = 24) (ho : X'.toArray.all (·.oneCell') = true) :
    Calls Try.prog 56 #[.agg X.toArray, .agg Y.toArray, .int .i64 3] w fun e w' => e = .returned (.agg X'.toArray) ∧ Below w.heap.size w w' := by
  have HO := Lib.hid ho
  have HS : Hid ((Try.prog.info? 32).map (·.size) = some X'.length) := Lib.hid (by rw [hX']; kernel_rfl)
  have HS' : Hid ((Try.prog.info? 32).map (·.size) = some X'.toArray.size) := Lib.hid (by rw [List.size_toArray, hX']; kernel_rfl)
  have HZ : Hid (0 + X'.toArray.size ≤ Z24.length) := Lib.hid (by rw [List.size_toArray, hX']; exact Nat.le_refl 24)
  have HZ2 : Hid (0 + X'.length ≤ Z24.length) := Lib.hid (by rw [hX']; exact Nat.le_refl 24)
  have HZ3 : Hid (X'.length = Z24.length) := Lib.hid (by rw [hX']; rfl)
  have K0 := Lib.hid (((Blk.new w 32 X.toArray).alloc (.cells Y.toArray 32)).alloc (.cells Z24.toArray 32))
  have KQ := Lib.hid (blkAt ((Blk.new (w.alloc (.cells X.toArray 32)) 32 Y.toArray).alloc (.cells Z24.toArray 32)) (g' := w.heap.size + 1) (by simp))
  have KR := Lib.hid (blkAt (Blk.new ((w.alloc (.cells X.toArray 32)).alloc (.cells Y.toArray 32)) 32 Z24.toArray) (g' := w.heap.size + 1 + 1) (by simp))
  have q23 : (((w.alloc (.cells X.toArray 32)).alloc (.cells Y.toArray 32)).alloc (.cells Z24.toArray 32)).cell? ⟨w.heap.size + 1, 23, none⟩ = some (.int .i64 l2) := by rw [KQ.out.cell 23]; simpa using hy23
  have p23 : (((w.alloc (.cells X.toArray 32)).alloc (.cells Y.toArray 32)).alloc (.cells Z24.toArray 32)).cell? ⟨w.heap.size, 23, none⟩ = some x23 := by rw [K0.out.cell 23]; simpa using hx23
  have f23 : (((w.alloc (.cells X.toArray 32)).alloc (.cells Y.toArray 32)).alloc (.cells Z24.toArray 32)).frozen? ⟨w.heap.size, 23, none⟩ = false := K0.out.frozen 23
  have KP2 : Hid (Blk (((w.alloc (.cells X'.toArray 32)).alloc (.cells Y.toArray 32)).alloc (.cells Z24.toArray 32)) w.heap.size 32 X'.toArray) := Lib.hid (((Blk.new w 32 X'.toArray).alloc (.cells Y.toArray 32)).alloc (.cells Z24.toArray 32))
  have KR2 : Hid (Blk (((w.alloc (.cells X'.toArray 32)).alloc (.cells Y.toArray 32)).alloc (.cells Z24.toArray 32)) (w.heap.size + 1 + 1) 32 Z24.toArray) := Lib.hid (blkAt (Blk.new ((w.alloc (.cells X'.toArray 32)).alloc (.cells Y.toArray 32)) 32 Z24.toArray) (g' := w.heap.size + 1 + 1) (by simp))
  have HB2 : Hid (Below w.heap.size w (((w.alloc (.cells X'.toArray 32)).alloc (.cells Y.toArray 32)).alloc (.cells Z24.toArray 32))) := Lib.hid (balloc (balloc (alloc_below _ _) _) _)
  clear ho hX'
  go_enter Try.func56, Try.ntmps56
  go_wp2_with (first | refine wpList_store_mid rfl 32 (.tmp 6) (.tmp 37) rfl (w.heap.size + 1 + 1) 0 X'.toArray rfl rfl (blk_there KR2.out HZ.out) HS'.out HO.out ?_ | refine wpList_load_mid rfl 32 (.tmp 3) rfl w.heap.size 0 rfl X' _ (blk_whole KP2.out) Try.underlying32 rfl HS.out ?_)
  have KW := Lib.hid (splice_all HZ3.out ▸ blk_setCells X' KR2.out HZ2.out)
  refine fin (fun W => Blk W (w.heap.size + 1 + 1) 32 X'.toArray ∧ Below w.heap.size w W) ⟨KW.out, below_setCells _ HB2.out (by omega)⟩ ?_
  rintro W ⟨kr, hb⟩
  have hl := run_loadVar_mid W (w.heap.size + 1 + 1) 0 32 X' _ (blk_whole kr) Try.underlying32 rfl HS.out
  simp only [Act.put, List.setIfInBounds_toArray, List.set_cons_zero, List.set_cons_succ]
  exact bodyPost_ret (v := .agg X'.toArray) (results_cell Try.results56 rfl hl) rfl ⟨rfl, hb⟩

def layP (k : Int) (X Y : List Value) : List Value :=
  if k = 0 then splice X 1 ((Y.drop 1).take 12) else if k = 1 then X.take 13 ++ (Y.drop 13).take 7 ++ X.drop 20 else if k = 2 then X.take 20 ++ (Y.drop 20).take 3 ++ X.drop 23 else if k = 3 then X.take 23 ++ Y.drop 23 else X
theorem rlay_any (k : Int) (h : Int) (M : Nat → Int) (m : Int) (B : Nat → Int) (p a : Int) (c : Bool) (l : Int) (h2 : Int) (N : Nat → Int) (m2 : Int) (B2 : Nat → Int) (p2 a2 : Int) (c2 : Bool) (l2 : Int) (w : World) :
    Calls Try.prog 56 #[.agg (PL h M m B p a c l).toArray, .agg (PL h2 N m2 B2 p2 a2 c2 l2).toArray, .int .i64 k] w fun e w' => e = .returned (.agg (layP k (PL h M m B p a c l) (PL h2 N m2 B2 p2 a2 c2 l2)).toArray) ∧ Below w.heap.size w w' := by
  rcases kind_cases k with hk | hk | rfl | rfl | rfl | rfl | rfl
  · rw [show layP k (PL h M m B p a c l) (PL h2 N m2 B2 p2 a2 c2 l2) = PL h M m B p a c l by unfold layP; rw [if_neg (by omega), if_neg (by omega), if_neg (by omega), if_neg (by omega)]]
    exact rlay_hide h M m B p a c l _ k w (.inl hk)
  · rw [show layP k (PL h M m B p a c l) (PL h2 N m2 B2 p2 a2 c2 l2) = PL h M m B p a c l by unfold layP; rw [if_neg (by omega), if_neg (by omega), if_neg (by omega), if_neg (by omega)]]
    exact rlay_hide h M m B p a c l _ k w (.inr (by omega))
  · exact rlay_place _ _ (PL h N m B p a c l) _ rfl rfl (all_oneCell_toArray (fun v hv => by
      have e : ((PL h2 N m2 B2 p2 a2 c2 l2).drop 1).take 12 = [.int .i64 (N 0), .int .i64 (N 1), .int .i64 (N 2), .int .i64 (N 3), .int .i64 (N 4), .int .i64 (N 5), .int .i64 (N 6), .int .i64 (N 7), .int .i64 (N 8), .int .i64 (N 9), .int .i64 (N 10), .int .i64 (N 11)] := rfl
      rw [e] at hv
      simp only [List.mem_cons, List.not_mem_nil, or_false] at hv
      rcases hv with rfl | rfl | rfl | rfl | rfl | rfl | rfl | rfl | rfl | rfl | rfl | rfl <;> rfl)) rfl w rfl rfl (PL_one _ _ _ _ _ _ _ _)
  · exact rlay_shape _ _ (PL h M m2 B2 p a c l) _ m2 (.int .i64 m) rfl rfl rfl rfl (all_oneCell_toArray (fun v hv => by
      have e : ((PL h2 N m2 B2 p2 a2 c2 l2).drop 14).take 6 = [.int .i64 (B2 0), .int .i64 (B2 1), .int .i64 (B2 2), .int .i64 (B2 3), .int .i64 (B2 4), .int .i64 (B2 5)] := rfl
      rw [e] at hv
      simp only [List.mem_cons, List.not_mem_nil, or_false] at hv
      rcases hv with rfl | rfl | rfl | rfl | rfl | rfl <;> rfl)) rfl w rfl rfl (PL_one _ _ _ _ _ _ _ _)
  · exact rlay_paint _ _ (PL h M m B p2 a2 c2 l) p2 a2 c2 (.int .i64 p) (.int .i64 a) (.bool c) rfl rfl rfl rfl rfl rfl rfl w rfl (PL_one _ _ _ _ _ _ _ _)
  · exact rlay_layer _ _ (PL h M m B p a c l2) l2 (.int .i64 l) rfl rfl rfl w rfl (PL_one _ _ _ _ _ _ _ _)
  · exact rlay_hide h M m B p a c l _ 4 w (.inr (by omega))

def kOk (k : Int) : Bool := decide (0 ≤ k) && decide (k ≤ 4)
def addK (s k : Int) : Int := if hasB s k then s else s + 2 ^ k.toNat
def ksOk (ks : List Int) : Bool := ks.all kOk
def ksS (ks : List Int) : Int := ks.foldl addK 0
def ksE (ks : List Int) : Int := if ksOk ks then 0 else 1
def ksV (ks : List Int) : Int := if ksOk ks then ksS ks else 0
theorem kOk_cases {k : Int} (h : kOk k = true) : k = 0 ∨ k = 1 ∨ k = 2 ∨ k = 3 ∨ k = 4 := by
  unfold kOk at h
  simp at h
  omega
theorem addK_bound {s k : Int} (hs : 0 ≤ s ∧ s ≤ 31) (hk : kOk k = true) : 0 ≤ addK s k ∧ addK s k ≤ 31 := by
  unfold addK
  by_cases c : hasB s k = true
  · rw [if_pos c]; exact hs
  · rw [if_neg c]
    have c' : hasB s k = false := by simpa using c
    rcases kOk_cases hk with rfl | rfl | rfl | rfl | rfl
    · have : ¬ (s % 2 = 1) := by simpa [hasB, hasN] using c'
      show 0 ≤ s + 1 ∧ s + 1 ≤ 31
      omega
    · have : ¬ (s / 2 % 2 = 1) := by simpa [hasB, hasN] using c'
      show 0 ≤ s + 2 ∧ s + 2 ≤ 31
      omega
    · have : ¬ (s / 4 % 2 = 1) := by simpa [hasB, hasN] using c'
      show 0 ≤ s + 4 ∧ s + 4 ≤ 31
      omega
    · have : ¬ (s / 8 % 2 = 1) := by simpa [hasB, hasN] using c'
      show 0 ≤ s + 8 ∧ s + 8 ≤ 31
      omega
    · have : ¬ (s / 16 % 2 = 1) := by simpa [hasB, hasN] using c'
      show 0 ≤ s + 16 ∧ s + 16 ≤ 31
      omega
theorem ks_bound : ∀ (ks : List Int) (s : Int), 0 ≤ s ∧ s ≤ 31 → ksOk ks = true → 0 ≤ ks.foldl addK s ∧ ks.foldl addK s ≤ 31
  | [], s, hs, _ => hs
  | k :: r, s, hs, h => by
    unfold ksOk at h
    rw [List.all_cons, Bool.and_eq_true] at h
    exact ks_bound r (addK s k) (addK_bound hs h.1) h.2
theorem ks_succ {ks : List Int} {j : Nat} {k : Int} (h : ks[j]? = some k) : ksS (ks.take (j + 1)) = addK (ksS (ks.take j)) k := by
  unfold ksS
  rw [List.take_add_one, h, List.foldl_append]
  rfl
theorem ksOk_succ {ks : List Int} {j : Nat} {k : Int} (h : ks[j]? = some k) (hr : ksOk (ks.take j) = true) (hk : kOk k = true) : ksOk (ks.take (j + 1)) = true := by
  unfold ksOk at hr ⊢
  rw [List.take_add_one, List.all_append, hr, h]
  simpa using hk
theorem ksOk_bad {ks : List Int} {j : Nat} {k : Int} (h : ks[j]? = some k) (hk : kOk k = false) : ksOk ks = false := by
  unfold ksOk
  rw [List.all_eq_false]
  exact ⟨k, List.mem_of_getElem? h, by simpa using hk⟩
theorem row_at6 {w : World} {a : Option Addr} {len : Nat} {zs : List Int} (h : Row w a len zs) {k : Nat} (hk : k < len) : ∃ b off x, a = some ⟨b, off, none⟩ ∧ zs[k]? = some x ∧ w.cell? ⟨b, off + k, none⟩ = some (.int .i64 x) := by
  obtain ⟨h1, h2, h3⟩ := h
  rcases h3 with h3 | ⟨b, off, rfl, hc⟩
  · omega
  · have hk' : k < zs.length := by omega
    have c := hc k hk
    rw [show zs.getD k 0 = zs[k] by simp [List.getD, List.getElem?_eq_getElem hk']] at c
    exact ⟨b, off, _, rfl, List.getElem?_eq_getElem hk', c⟩
theorem rhas_b {s k : Int} {b : Bool} (h : hasB s k = b) (w : World) :
    Calls Try.prog 22 #[.int .i64 s, .int .i64 k] w fun e w' => e = .returned (.bool b) ∧ w = w' := (rhas_any s k w).mono fun _ _ ⟨he, hw⟩ => ⟨by rw [he, h], hw⟩

set_option maxHeartbeats 2000000 in
theorem eqVecB (n : Nat) (x0 x1 x2 y0 y1 y2 : Int) (w : World) : (Op.equalIn (n + 1 + 1) 28 (.agg #[.int .i64 x0, .int .i64 x1, .int .i64 x2]) (.agg #[.int .i64 y0, .int .i64 y1, .int .i64 y2])).run Try.prog w = .ok ((x0 == y0) && (x1 == y1) && (x2 == y2)) w := by
  have u3 := Try.underlying24
  have a3 := Try.isAgg24
  have z3 := Try.sizeOf24
  rw [Op.equalIn]
  simp only [Sem.run_bind, run_underlying Try.underlying28, Result.andThen_ok]
  simp only [Std.Legacy.Range.forIn_eq_forIn_range', Std.Legacy.Range.size, Nat.sub_zero, Nat.add_sub_cancel, Nat.div_one, List.range'_succ, List.range'_zero, List.forIn_cons, List.forIn_nil]
  go_simp
  by_cases h0 : x0 = y0
  · subst h0
    by_cases h1 : x1 = y1
    · subst h1
      by_cases h2 : x2 = y2
      · subst h2
        simp
      · simp [h2]
    · simp [h1]
  · simp [h0]
set_option maxHeartbeats 2000000 in
theorem eqMatB (n : Nat) (x0 x1 x2 x3 x4 x5 x6 x7 x8 x9 x10 x11 y0 y1 y2 y3 y4 y5 y6 y7 y8 y9 y10 y11 : Int) (w : World) : (Op.equalIn (n + 1 + 1) 26 (.agg #[.int .i64 x0, .int .i64 x1, .int .i64 x2, .int .i64 x3, .int .i64 x4, .int .i64 x5, .int .i64 x6, .int .i64 x7, .int .i64 x8, .int .i64 x9, .int .i64 x10, .int .i64 x11]) (.agg #[.int .i64 y0, .int .i64 y1, .int .i64 y2, .int .i64 y3, .int .i64 y4, .int .i64 y5, .int .i64 y6, .int .i64 y7, .int .i64 y8, .int .i64 y9, .int .i64 y10, .int .i64 y11])).run Try.prog w = .ok ((x0 == y0) && (x1 == y1) && (x2 == y2) && (x3 == y3) && (x4 == y4) && (x5 == y5) && (x6 == y6) && (x7 == y7) && (x8 == y8) && (x9 == y9) && (x10 == y10) && (x11 == y11)) w := by
  have u3 := Try.underlying24
  have a3 := Try.isAgg24
  have z3 := Try.sizeOf24
  rw [Op.equalIn]
  simp only [Sem.run_bind, run_underlying Try.underlying26, Result.andThen_ok]
  simp only [Std.Legacy.Range.forIn_eq_forIn_range', Std.Legacy.Range.size, Nat.sub_zero, Nat.add_sub_cancel, Nat.div_one, List.range'_succ, List.range'_zero, List.forIn_cons, List.forIn_nil]
  go_simp
  by_cases h0 : x0 = y0
  · subst h0
    by_cases h1 : x1 = y1
    · subst h1
      by_cases h2 : x2 = y2
      · subst h2
        by_cases h3 : x3 = y3
        · subst h3
          by_cases h4 : x4 = y4
          · subst h4
            by_cases h5 : x5 = y5
            · subst h5
              by_cases h6 : x6 = y6
              · subst h6
                by_cases h7 : x7 = y7
                · subst h7
                  by_cases h8 : x8 = y8
                  · subst h8
                    by_cases h9 : x9 = y9
                    · subst h9
                      by_cases h10 : x10 = y10
                      · subst h10
                        by_cases h11 : x11 = y11
                        · subst h11
                          simp
                        · simp [h11]
                      · simp [h10]
                    · simp [h9]
                  · simp [h8]
                · simp [h7]
              · simp [h6]
            · simp [h5]
          · simp [h4]
        · simp [h3]
      · simp [h2]
    · simp [h1]
  · simp [h0]
set_option maxHeartbeats 2000000 in
theorem eqBoxB (n : Nat) (x0 x1 x2 x3 x4 x5 y0 y1 y2 y3 y4 y5 : Int) (w : World) : (Op.equalIn (n + 1 + 1 + 1) 30 (.agg #[.int .i64 x0, .int .i64 x1, .int .i64 x2, .int .i64 x3, .int .i64 x4, .int .i64 x5]) (.agg #[.int .i64 y0, .int .i64 y1, .int .i64 y2, .int .i64 y3, .int .i64 y4, .int .i64 y5])).run Try.prog w = .ok (((x0 == y0) && (x1 == y1) && (x2 == y2)) && ((x3 == y3) && (x4 == y4) && (x5 == y5))) w := by
  have hv := eqVecB
  have a3 := Try.isAgg28
  have z3 := Try.sizeOf28
  rw [Op.equalIn]
  simp only [Sem.run_bind, run_underlying Try.underlying30, Result.andThen_ok]
  go_simp
  by_cases h0 : x0 = y0
  · subst h0
    by_cases h1 : x1 = y1
    · subst h1
      by_cases h2 : x2 = y2
      · subst h2
        by_cases h3 : x3 = y3
        · subst h3
          by_cases h4 : x4 = y4
          · subst h4
            by_cases h5 : x5 = y5
            · subst h5
              simp
            · simp [h5]
          · simp [h4]
        · simp [h3]
      · simp [h2]
    · simp [h1]
  · simp [h0]

set_option maxHeartbeats 4000000 in
set_option maxRecDepth 10000 in
theorem eqParts_of (h : Int) (M : Nat → Int) (m : Int) (B : Nat → Int) (p a : Int) (c : Bool) (l : Int) (h2 : Int) (N : Nat → Int) (m2 : Int) (B2 : Nat → Int) (p2 a2 : Int) (c2 : Bool) (l2 : Int) (eM eB : Bool) (w : World)
    (hM : ∀ n w, (Op.equalIn (n + 1 + 1) 26 (.agg #[.int .i64 (M 0), .int .i64 (M 1), .int .i64 (M 2), .int .i64 (M 3), .int .i64 (M 4), .int .i64 (M 5), .int .i64 (M 6), .int .i64 (M 7), .int .i64 (M 8), .int .i64 (M 9), .int .i64 (M 10), .int .i64 (M 11)]) (.agg #[.int .i64 (N 0), .int .i64 (N 1), .int .i64 (N 2), .int .i64 (N 3), .int .i64 (N 4), .int .i64 (N 5), .int .i64 (N 6), .int .i64 (N 7), .int .i64 (N 8), .int .i64 (N 9), .int .i64 (N 10), .int .i64 (N 11)])).run Try.prog w = .ok eM w) (hB : ∀ n w, (Op.equalIn (n + 1 + 1 + 1) 30 (.agg #[.int .i64 (B 0), .int .i64 (B 1), .int .i64 (B 2), .int .i64 (B 3), .int .i64 (B 4), .int .i64 (B 5)]) (.agg #[.int .i64 (B2 0), .int .i64 (B2 1), .int .i64 (B2 2), .int .i64 (B2 3), .int .i64 (B2 4), .int .i64 (B2 5)])).run Try.prog w = .ok eB w) :
    (Op.equalIn 10000 32 (.agg (PL h M m B p a c l).toArray) (.agg (PL h2 N m2 B2 p2 a2 c2 l2).toArray)).run Try.prog w = .ok ((h == h2) && eM && (m == m2) && eB && (p == p2) && (a == a2) && (c == c2) && (l == l2)) w := by
  have a1 := Try.isAgg26
  have z1 := Try.sizeOf26
  have a2' := Try.isAgg30
  have z2 := Try.sizeOf30
  have u3 := Try.underlying3
  have a3 := Try.isAgg3
  have z3 := Try.sizeOf3
  have u4 := Try.underlying23
  have a4 := Try.isAgg23
  have z4 := Try.sizeOf23
  have u5 := Try.underlying4
  have a5 := Try.isAgg4
  have z5 := Try.sizeOf4
  unfold PL
  rw [show (10000 : Nat) = 9996 + 1 + 1 + 1 + 1 from rfl, Op.equalIn]
  simp only [Sem.run_bind, run_underlying Try.underlying32, Result.andThen_ok]
  go_simp
  by_cases e0 : h = h2
  · cases eM
    · simp
    · by_cases e1 : m = m2
      · cases eB
        · simp
        · by_cases e2 : p = p2
          · by_cases e3 : a = a2
            · by_cases e4 : c = c2
              · by_cases e5 : l = l2
                · simp [e0, e1, e2, e3, e4, e5]
                · simp [e5]
              · simp [e4]
            · simp [e3]
          · simp [e2]
      · simp [e1]
  · simp [e0]

def eq12 (M N : Nat → Int) : Bool := (M 0 == N 0) && (M 1 == N 1) && (M 2 == N 2) && (M 3 == N 3) && (M 4 == N 4) && (M 5 == N 5) && (M 6 == N 6) && (M 7 == N 7) && (M 8 == N 8) && (M 9 == N 9) && (M 10 == N 10) && (M 11 == N 11)
def eq6 (B C : Nat → Int) : Bool := ((B 0 == C 0) && (B 1 == C 1) && (B 2 == C 2)) && ((B 3 == C 3) && (B 4 == C 4) && (B 5 == C 5))
def eqP (h : Int) (M : Nat → Int) (m : Int) (B : Nat → Int) (p a : Int) (c : Bool) (l : Int) (h2 : Int) (N : Nat → Int) (m2 : Int) (B2 : Nat → Int) (p2 a2 : Int) (c2 : Bool) (l2 : Int) : Bool := (h == h2) && eq12 M N && (m == m2) && eq6 B B2 && (p == p2) && (a == a2) && (c == c2) && (l == l2)
theorem eqParts (h : Int) (M : Nat → Int) (m : Int) (B : Nat → Int) (p a : Int) (c : Bool) (l : Int) (h2 : Int) (N : Nat → Int) (m2 : Int) (B2 : Nat → Int) (p2 a2 : Int) (c2 : Bool) (l2 : Int) (w : World) :
    (Op.equalIn 10000 32 (.agg (PL h M m B p a c l).toArray) (.agg (PL h2 N m2 B2 p2 a2 c2 l2).toArray)).run Try.prog w = .ok (eqP h M m B p a c l h2 N m2 B2 p2 a2 c2 l2) w :=
  eqParts_of h M m B p a c l h2 N m2 B2 p2 a2 c2 l2 (eq12 M N) (eq6 B B2) w (fun n w => eqMatB n _ _ _ _ _ _ _ _ _ _ _ _ _ _ _ _ _ _ _ _ _ _ _ _ w) (fun n w => eqBoxB n _ _ _ _ _ _ _ _ _ _ _ _ w)
theorem eq12_self (M : Nat → Int) : eq12 M M = true := by unfold eq12; simp
theorem eq6_self (B : Nat → Int) : eq6 B B = true := by unfold eq6; simp

end Go.Proofs.Ytffbehcbokmpkaa
