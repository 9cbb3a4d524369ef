/-
  4 texts in one file, each with its own heading.
-/
import Derived.Test.YtffbehcbokmpkaaML04
/-
  Parts as twenty-four cells (a function of the place, and whether it is clear); what the reference's Has, in and lay of layer 6 answer.
-/
namespace Go.Proofs.Ytffbehcbokmpkaa
open Go.RowKit

theorem ofInt_nat (x : Int) : (BitVec.ofInt 64 x).toNat = (x % 18446744073709551616).toNat := by
  rw [BitVec.toNat_ofInt]; rfl
def hasN (s : Int) (k : Nat) : Bool := decide (s / 2 ^ k % 2 = 1)
def hasB (s k : Int) : Bool := decide (0 ≤ k) && decide (k ≤ 4) && hasN s k.toNat
theorem has_yes {s : Int} {k : Nat} (h : k ≤ 4) : hasB s k = hasN s k := by
  unfold hasB
  rw [show decide ((0 : Int) ≤ (k : Int)) = true by simp, show decide ((k : Int) ≤ 4) = true by simp; omega]
  simp
def inB (n m : Int) : Bool := decide (0 ≤ n) && decide (n ≤ m)
def splice (X : List Value) (o : Nat) (vs : List Value) : List Value := X.take o ++ vs ++ X.drop (o + vs.length)
theorem splice_len {X : List Value} {o : Nat} {vs : List Value} (h : o + vs.length ≤ X.length) : (splice X o vs).length = X.length := by
  unfold splice; simp; omega
theorem splice_all {X Z : List Value} (h : X.length = Z.length) : splice Z 0 X = X := by
  unfold splice; rw [h]; simp
theorem blk_range {w : World} {g : Nat} {t : TypeId} {X : List Value} (h : Blk w g t X.toArray) (o n : Nat) : w.rangeAt g o ((X.drop o).take n) := fun j v hv => by
  rw [h.cell (o + j)]
  rw [List.getElem?_take] at hv
  by_cases c : j < n
  · rw [if_pos c, List.getElem?_drop] at hv
    simpa using hv
  · rw [if_neg c] at hv; cases hv
theorem blk_whole {w : World} {g : Nat} {t : TypeId} {X : List Value} (h : Blk w g t X.toArray) : w.rangeAt g 0 X := fun j v hv => by
  rw [h.cell (0 + j)]
  simpa using hv
theorem blk_there {w : World} {g : Nat} {t : TypeId} {X : List Value} (h : Blk w g t X.toArray) {o n : Nat} (hn : o + n ≤ X.length) : w.there g o n := fun j hj => by
  refine ⟨?_, h.frozen _⟩
  rw [h.cell (o + j)]
  simp [List.getElem?_eq_getElem (show o + j < X.length by omega)]
theorem blk_setCells : ∀ (vs : List Value) {w : World} {g : Nat} {t : TypeId} {X : List Value} {o : Nat}, Blk w g t X.toArray → o + vs.length ≤ X.length → Blk (w.setCells g o vs) g t (splice X o vs).toArray
  | [], w, g, t, X, o, h, _ => by
    have e : splice X o [] = X := by unfold splice; simp
    rw [e]
    exact h
  | v :: vs, w, g, t, X, o, h, hn => by
    have h1 : Blk (w.setCell ⟨g, o, none⟩ v) g t (X.set o v).toArray := by
      have := h.set_ o v
      simpa using this
    have h2 := blk_setCells vs (o := o + 1) h1 (by simp at hn ⊢; omega)
    have e : splice (X.set o v) (o + 1) vs = splice X o (v :: vs) := by
      have ho : o < X.length := by simp at hn; omega
      have ht : (X.take (o + 1)).set o v = X.take o ++ [v] := by
        rw [List.take_add_one, List.getElem?_eq_getElem ho, List.set_append, if_neg (by simp; omega), show o - (X.take o).length = 0 by simp; omega]
        rfl
      unfold splice
      rw [List.take_set, List.drop_set, if_pos (by omega), ht]
      simp [Nat.add_assoc, Nat.add_comm 1]
    rw [e] at h2
    exact h2
theorem blk_setFar : ∀ (vs : List Value) {w : World} {g g' : Nat} {t : TypeId} {C : Array Value} {o : Nat}, Blk w g t C → g ≠ g' → Blk (w.setCells g' o vs) g t C
  | [], _, _, _, _, _, _, h, _ => h
  | v :: vs, _, _, g', _, _, o, h, hne => blk_setFar vs (h.far (p := ⟨g', o, none⟩) hne v) hne
theorem below_setCells : ∀ (vs : List Value) {B : Nat} {a w : World} {g o : Nat}, Below B a w → B ≤ g → Below B a (w.setCells g o vs)
  | [], _, _, _, _, _, h, _ => h
  | v :: vs, _, _, _, g, o, h, hg => below_setCells vs (h.setCell (p := ⟨g, o, none⟩) hg v) hg

def PL (h : Int) (M : Nat → Int) (m : Int) (B : Nat → Int) (p a : Int) (c : Bool) (l : Int) : List Value := [.int .i64 h, .int .i64 (M 0), .int .i64 (M 1), .int .i64 (M 2), .int .i64 (M 3), .int .i64 (M 4), .int .i64 (M 5), .int .i64 (M 6), .int .i64 (M 7), .int .i64 (M 8), .int .i64 (M 9), .int .i64 (M 10), .int .i64 (M 11), .int .i64 m, .int .i64 (B 0), .int .i64 (B 1), .int .i64 (B 2), .int .i64 (B 3), .int .i64 (B 4), .int .i64 (B 5), .int .i64 p, .int .i64 a, .bool c, .int .i64 l]
theorem PL_len (h : Int) (M : Nat → Int) (m : Int) (B : Nat → Int) (p a : Int) (c : Bool) (l : Int) : (PL h M m B p a c l).length = 24 := rfl
theorem PL_one (h : Int) (M : Nat → Int) (m : Int) (B : Nat → Int) (p a : Int) (c : Bool) (l : Int) : (PL h M m B p a c l).toArray.all (·.oneCell') = true := all_oneCell_toArray (fun v hv => by
  unfold PL at hv
  simp only [List.mem_cons, List.not_mem_nil, or_false] at hv
  rcases hv with rfl | rfl | rfl | rfl | rfl | rfl | rfl | rfl | rfl | rfl | rfl | rfl | rfl | rfl | rfl | rfl | rfl | rfl | rfl | rfl | rfl | rfl | rfl | rfl <;> rfl)
theorem size_parts (h : Int) (M : Nat → Int) (m : Int) (B : Nat → Int) (p a : Int) (c : Bool) (l : Int) : (Try.prog.info? 32).map (·.size) = some (PL h M m B p a c l).length := by rw [PL_len]; kernel_rfl
def Z24 : List Value := PL 0 (fun _ => 0) 0 (fun _ => 0) 0 0 false 0

theorem results_cell {fn : Func} {tmps : Array Value} {s : Tmp} {t : TypeId} {g : Nat} {v : Value} {w : World} (hr : fn.results = #[.cell s t]) (hp : tmps.getD s undef = .pointer (some ⟨g, 0, none⟩)) (hl : (loadVar t ⟨g, 0, none⟩).run Try.prog w = .ok v w) : (results fn tmps).run Try.prog w = .ok v w := by
  unfold results
  rw [hr]
  have hp' : tmps[s]?.getD undef = .pointer (some ⟨g, 0, none⟩) := by simpa using hp
  simp [hp', hl, asAddr]
theorem results_cell2 {fn : Func} {tmps : Array Value} {s r : Tmp} {t : TypeId} {g : Nat} {v u : Value} {w : World} (hr : fn.results = #[.cell s t, .tmp r]) (hp : tmps.getD s undef = .pointer (some ⟨g, 0, none⟩)) (hu : tmps.getD r undef = u) (hl : (loadVar t ⟨g, 0, none⟩).run Try.prog w = .ok v w) : (results fn tmps).run Try.prog w = .ok (.tuple #[v, u]) w := by
  unfold results
  rw [hr]
  have hp' : tmps[s]?.getD undef = .pointer (some ⟨g, 0, none⟩) := by simpa using hp
  have hu' : tmps[r]?.getD undef = u := by simpa using hu
  simp [hp', hu', hl, asAddr]

def kOk (k : Int) : Bool := decide (0 ≤ k) && decide (k ≤ 4)
def addK (s k : Int) : Int := if hasB s k then s else s + 2 ^ k.toNat
def ksOk (ks : List Int) : Bool := ks.all kOk
def ksS (ks : List Int) : Int := ks.foldl addK 0
def ksE (ks : List Int) : Int := if ksOk ks then 0 else 1
def ksV (ks : List Int) : Int := if ksOk ks then ksS ks else 0
theorem kOk_cases {k : Int} (h : kOk k = true) : k = 0 ∨ k = 1 ∨ k = 2 ∨ k = 3 ∨ k = 4 := by
  unfold kOk at h
  simp at h
  omega
theorem addK_bound {s k : Int} (hs : 0 ≤ s ∧ s ≤ 31) (hk : kOk k = true) : 0 ≤ addK s k ∧ addK s k ≤ 31 := by
  unfold addK
  by_cases c : hasB s k = true
  · rw [if_pos c]; exact hs
  · rw [if_neg c]
    have c' : hasB s k = false := by simpa using c
    rcases kOk_cases hk with rfl | rfl | rfl | rfl | rfl
    · have : ¬ (s % 2 = 1) := by simpa [hasB, hasN] using c'
      show 0 ≤ s + 1 ∧ s + 1 ≤ 31
      omega
    · have : ¬ (s / 2 % 2 = 1) := by simpa [hasB, hasN] using c'
      show 0 ≤ s + 2 ∧ s + 2 ≤ 31
      omega
    · have : ¬ (s / 4 % 2 = 1) := by simpa [hasB, hasN] using c'
      show 0 ≤ s + 4 ∧ s + 4 ≤ 31
      omega
    · have : ¬ (s / 8 % 2 = 1) := by simpa [hasB, hasN] using c'
      show 0 ≤ s + 8 ∧ s + 8 ≤ 31
      omega
    · have : ¬ (s / 16 % 2 = 1) := by simpa [hasB, hasN] using c'
      show 0 ≤ s + 16 ∧ s + 16 ≤ 31
      omega
theorem ks_bound : ∀ (ks : List Int) (s : Int), 0 ≤ s ∧ s ≤ 31 → ksOk ks = true → 0 ≤ ks.foldl addK s ∧ ks.foldl addK s ≤ 31
  | [], s, hs, _ => hs
  | k :: r, s, hs, h => by
    unfold ksOk at h
    rw [List.all_cons, Bool.and_eq_true] at h
    exact ks_bound r (addK s k) (addK_bound hs h.1) h.2
theorem ks_succ {ks : List Int} {j : Nat} {k : Int} (h : ks[j]? = some k) : ksS (ks.take (j + 1)) = addK (ksS (ks.take j)) k := by
  unfold ksS
  rw [List.take_add_one, h, List.foldl_append]
  rfl
theorem ksOk_succ {ks : List Int} {j : Nat} {k : Int} (h : ks[j]? = some k) (hr : ksOk (ks.take j) = true) (hk : kOk k = true) : ksOk (ks.take (j + 1)) = true := by
  unfold ksOk at hr ⊢
  rw [List.take_add_one, List.all_append, hr, h]
  simpa using hk
theorem ksOk_bad {ks : List Int} {j : Nat} {k : Int} (h : ks[j]? = some k) (hk : kOk k = false) : ksOk ks = false := by
  unfold ksOk
  rw [List.all_eq_false]
  exact ⟨k, List.mem_of_getElem? h, by simpa using hk⟩
theorem row_at6 {w : World} {a : Option Addr} {len : Nat} {zs : List Int} (h : Row w a len zs) {k : Nat} (hk : k < len) : ∃ b off x, a = some ⟨b, off, none⟩ ∧ zs[k]? = some x ∧ w.cell? ⟨b, off + k, none⟩ = some (.int .i64 x) := by
  obtain ⟨h1, h2, h3⟩ := h
  rcases h3 with h3 | ⟨b, off, rfl, hc⟩
  · omega
  · have hk' : k < zs.length := by omega
    have c := hc k hk
    rw [show zs.getD k 0 = zs[k] by simp [List.getD, List.getElem?_eq_getElem hk']] at c
    exact ⟨b, off, _, rfl, List.getElem?_eq_getElem hk', c⟩
set_option maxHeartbeats 2000000 in
theorem eqVecB (n : Nat) (x0 x1 x2 y0 y1 y2 : Int) (w : World) : (Op.equalIn (n + 1 + 1) 28 (.agg #[.int .i64 x0, .int .i64 x1, .int .i64 x2]) (.agg #[.int .i64 y0, .int .i64 y1, .int .i64 y2])).run Try.prog w = .ok ((x0 == y0) && (x1 == y1) && (x2 == y2)) w := by
  have u3 := Try.underlying24
  have a3 := Try.isAgg24
  have z3 := Try.sizeOf24
  rw [Op.equalIn]
  simp only [Sem.run_bind, run_underlying Try.underlying28, Result.andThen_ok]
  simp only [Std.Legacy.Range.forIn_eq_forIn_range', Std.Legacy.Range.size, Nat.sub_zero, Nat.add_sub_cancel, Nat.div_one, List.range'_succ, List.range'_zero, List.forIn_cons, List.forIn_nil]
  go_simp
  by_cases h0 : x0 = y0
  · subst h0
    by_cases h1 : x1 = y1
    · subst h1
      by_cases h2 : x2 = y2
      · subst h2
        simp
      · simp [h2]
    · simp [h1]
  · simp [h0]
set_option maxHeartbeats 2000000 in
theorem eqMatB (n : Nat) (x0 x1 x2 x3 x4 x5 x6 x7 x8 x9 x10 x11 y0 y1 y2 y3 y4 y5 y6 y7 y8 y9 y10 y11 : Int) (w : World) : (Op.equalIn (n + 1 + 1) 26 (.agg #[.int .i64 x0, .int .i64 x1, .int .i64 x2, .int .i64 x3, .int .i64 x4, .int .i64 x5, .int .i64 x6, .int .i64 x7, .int .i64 x8, .int .i64 x9, .int .i64 x10, .int .i64 x11]) (.agg #[.int .i64 y0, .int .i64 y1, .int .i64 y2, .int .i64 y3, .int .i64 y4, .int .i64 y5, .int .i64 y6, .int .i64 y7, .int .i64 y8, .int .i64 y9, .int .i64 y10, .int .i64 y11])).run Try.prog w = .ok ((x0 == y0) && (x1 == y1) && (x2 == y2) && (x3 == y3) && (x4 == y4) && (x5 == y5) && (x6 == y6) && (x7 == y7) && (x8 == y8) && (x9 == y9) && (x10 == y10) && (x11 == y11)) w := by
  have u3 := Try.underlying24
  have a3 := Try.isAgg24
  have z3 := Try.sizeOf24
  rw [Op.equalIn]
  simp only [Sem.run_bind, run_underlying Try.underlying26, Result.andThen_ok]
  simp only [Std.Legacy.Range.forIn_eq_forIn_range', Std.Legacy.Range.size, Nat.sub_zero, Nat.add_sub_cancel, Nat.div_one, List.range'_succ, List.range'_zero, List.forIn_cons, List.forIn_nil]
  go_simp
  by_cases h0 : x0 = y0
  · subst h0
    by_cases h1 : x1 = y1
    · subst h1
      by_cases h2 : x2 = y2
      · subst h2
        by_cases h3 : x3 = y3
        · subst h3
          by_cases h4 : x4 = y4
          · subst h4
            by_cases h5 : x5 = y5
            · subst h5
              by_cases h6 : x6 = y6
              · subst h6
                by_cases h7 : x7 = y7
                · subst h7
                  by_cases h8 : x8 = y8
                  · subst h8
                    by_cases h9 : x9 = y9
                    · subst h9
                      by_cases h10 : x10 = y10
                      · subst h10
                        by_cases h11 : x11 = y11
                        · subst h11
                          simp
                        · simp [h11]
                      · simp [h10]
                    · simp [h9]
                  · simp [h8]
                · simp [h7]
              · simp [h6]
            · simp [h5]
          · simp [h4]
        · simp [h3]
      · simp [h2]
    · simp [h1]
  · simp [h0]
set_option maxHeartbeats 2000000 in
theorem eqBoxB (n : Nat) (x0 x1 x2 x3 x4 x5 y0 y1 y2 y3 y4 y5 : Int) (w : World) : (Op.equalIn (n + 1 + 1 + 1) 30 (.agg #[.int .i64 x0, .int .i64 x1, .int .i64 x2, .int .i64 x3, .int .i64 x4, .int .i64 x5]) (.agg #[.int .i64 y0, .int .i64 y1, .int .i64 y2, .int .i64 y3, .int .i64 y4, .int .i64 y5])).run Try.prog w = .ok (((x0 == y0) && (x1 == y1) && (x2 == y2)) && ((x3 == y3) && (x4 == y4) && (x5 == y5))) w := by
  have hv := eqVecB
  have a3 := Try.isAgg28
  have z3 := Try.sizeOf28
  rw [Op.equalIn]
  simp only [Sem.run_bind, run_underlying Try.underlying30, Result.andThen_ok]
  go_simp
  by_cases h0 : x0 = y0
  · subst h0
    by_cases h1 : x1 = y1
    · subst h1
      by_cases h2 : x2 = y2
      · subst h2
        by_cases h3 : x3 = y3
        · subst h3
          by_cases h4 : x4 = y4
          · subst h4
            by_cases h5 : x5 = y5
            · subst h5
              simp
            · simp [h5]
          · simp [h4]
        · simp [h3]
      · simp [h2]
    · simp [h1]
  · simp [h0]

set_option maxHeartbeats 4000000 in
set_option maxRecDepth 10000 in
theorem eqParts_of (h : Int) (M : Nat → Int) (m : Int) (B : Nat → Int) (p a : Int) (c : Bool) (l : Int) (h2 : Int) (N : Nat → Int) (m2 : Int) (B2 : Nat → Int) (p2 a2 : Int) (c2 : Bool) (l2 : Int) (eM eB : Bool) (w : World)
    (hM : ∀ n w, (Op.equalIn (n + 1 + 1) 26 (.agg #[.int .i64 (M 0), .int .i64 (M 1), .int .i64 (M 2), .int .i64 (M 3), .int .i64 (M 4), .int .i64 (M 5), .int .i64 (M 6), .int .i64 (M 7), .int .i64 (M 8), .int .i64 (M 9), .int .i64 (M 10), .int .i64 (M 11)]) (.agg #[.int .i64 (N 0), .int .i64 (N 1), .int .i64 (N 2), .int .i64 (N 3), .int .i64 (N 4), .int .i64 (N 5), .int .i64 (N 6), .int .i64 (N 7), .int .i64 (N 8), .int .i64 (N 9), .int .i64 (N 10), .int .i64 (N 11)])).run Try.prog w = .ok eM w) (hB : ∀ n w, (Op.equalIn (n + 1 + 1 + 1) 30 (.agg #[.int .i64 (B 0), .int .i64 (B 1), .int .i64 (B 2), .int .i64 (B 3), .int .i64 (B 4), .int .i64 (B 5)]) (.agg #[.int .i64 (B2 0), .int .i64 (B2 1), .int .i64 (B2 2), .int .i64 (B2 3), .int .i64 (B2 4), .int .i64 (B2 5)])).run Try.prog w = .ok eB w) :
    (Op.equalIn 10000 32 (.agg (PL h M m B p a c l).toArray) (.agg (PL h2 N m2 B2 p2 a2 c2 l2).toArray)).run Try.prog w = .ok ((h == h2) && eM && (m == m2) && eB && (p == p2) && (a == a2) && (c == c2) && (l == l2)) w := by
  have a1 := Try.isAgg26
  have z1 := Try.sizeOf26
  have a2' := Try.isAgg30
  have z2 := Try.sizeOf30
  have u3 := Try.underlying3
  have a3 := Try.isAgg3
  have z3 := Try.sizeOf3
  have u4 := Try.underlying23
  have a4 := Try.isAgg23
  have z4 := Try.sizeOf23
  have u5 := Try.underlying4
  have a5 := Try.isAgg4
  have z5 := Try.sizeOf4
  unfold PL
  rw [show (10000 : Nat) = 9996 + 1 + 1 + 1 + 1 from rfl, Op.equalIn]
  simp only [Sem.run_bind, run_underlying Try.underlying32, Result.andThen_ok]
  go_simp
  by_cases e0 : h = h2
  · cases eM
    · simp
    · by_cases e1 : m = m2
      · cases eB
        · simp
        · by_cases e2 : p = p2
          · by_cases e3 : a = a2
            · by_cases e4 : c = c2
              · by_cases e5 : l = l2
                · simp [e0, e1, e2, e3, e4, e5]
                · simp [e5]
              · simp [e4]
            · simp [e3]
          · simp [e2]
      · simp [e1]
  · simp [e0]

def eq12 (M N : Nat → Int) : Bool := (M 0 == N 0) && (M 1 == N 1) && (M 2 == N 2) && (M 3 == N 3) && (M 4 == N 4) && (M 5 == N 5) && (M 6 == N 6) && (M 7 == N 7) && (M 8 == N 8) && (M 9 == N 9) && (M 10 == N 10) && (M 11 == N 11)
def eq6 (B C : Nat → Int) : Bool := ((B 0 == C 0) && (B 1 == C 1) && (B 2 == C 2)) && ((B 3 == C 3) && (B 4 == C 4) && (B 5 == C 5))
def eqP (h : Int) (M : Nat → Int) (m : Int) (B : Nat → Int) (p a : Int) (c : Bool) (l : Int) (h2 : Int) (N : Nat → Int) (m2 : Int) (B2 : Nat → Int) (p2 a2 : Int) (c2 : Bool) (l2 : Int) : Bool := (h == h2) && eq12 M N && (m == m2) && eq6 B B2 && (p == p2) && (a == a2) && (c == c2) && (l == l2)
theorem eqParts (h : Int) (M : Nat → Int) (m : Int) (B : Nat → Int) (p a : Int) (c : Bool) (l : Int) (h2 : Int) (N : Nat → Int) (m2 : Int) (B2 : Nat → Int) (p2 a2 : Int) (c2 : Bool) (l2 : Int) (w : World) :
    (Op.equalIn 10000 32 (.agg (PL h M m B p a c l).toArray) (.agg (PL h2 N m2 B2 p2 a2 c2 l2).toArray)).run Try.prog w = .ok (eqP h M m B p a c l h2 N m2 B2 p2 a2 c2 l2) w :=
  eqParts_of h M m B p a c l h2 N m2 B2 p2 a2 c2 l2 (eq12 M N) (eq6 B B2) w (fun n w => eqMatB n _ _ _ _ _ _ _ _ _ _ _ _ _ _ _ _ _ _ _ _ _ _ _ _ w) (fun n w => eqBoxB n _ _ _ _ _ _ _ _ _ _ _ _ w)
theorem eq12_self (M : Nat → Int) : eq12 M M = true := by unfold eq12; simp
theorem eq6_self (B : Nat → Int) : eq6 B B = true := by unfold eq6; simp

end Go.Proofs.Ytffbehcbokmpkaa
