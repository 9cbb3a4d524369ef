/-
  18 texts in one file, each with its own heading.
-/
import Derived.Test.YtdndafdninnjfaaGreatMShp
import Derived.Test.YtdndafdninnjfaaGreatMAff
import Derived.Deep.QuietTactic
import Derived.Maps.AppendAt
import Derived.Deep.RegionHeld3
import Derived.Maps.Own
/-
  Parts as twenty-four cells (a function of the place, and whether it is clear); what the reference's Has, in and lay of layer 6 answer.
-/
namespace Go.Proofs.YtdndafdninnjfaaGreat
open Go.RowKit

/-! bits -/
/-- has a set a kind? -/
def hasN (s : Int) (k : Nat) : Bool := decide (s / 2 ^ k % 2 = 1)
def hasB (s k : Int) : Bool := decide (0 ≤ k) && decide (k ≤ 4) && hasN s k.toNat
def inB (n m : Int) : Bool := decide (0 ≤ n) && decide (n ≤ m)
/-! a struct of many cells, as a list that is not laid open -/
def splice (X : List Value) (o : Nat) (vs : List Value) : List Value := X.take o ++ vs ++ X.drop (o + vs.length)
theorem splice_len {X : List Value} {o : Nat} {vs : List Value} (h : o + vs.length ≤ X.length) : (splice X o vs).length = X.length := by
  unfold splice; simp; omega
theorem splice_all {X Z : List Value} (h : X.length = Z.length) : splice Z 0 X = X := by
  unfold splice; rw [h]; simp
theorem blk_range {w : World} {g : Nat} {t : TypeId} {X : List Value} (h : Blk w g t X.toArray) (o n : Nat) : w.rangeAt g o ((X.drop o).take n) := fun j v hv => by
  rw [h.cell (o + j)]
  rw [List.getElem?_take] at hv
  by_cases c : j < n
  · rw [if_pos c, List.getElem?_drop] at hv
    simpa using hv
  · rw [if_neg c] at hv; cases hv
theorem blk_whole {w : World} {g : Nat} {t : TypeId} {X : List Value} (h : Blk w g t X.toArray) : w.rangeAt g 0 X := fun j v hv => by
  rw [h.cell (0 + j)]
  simpa using hv
theorem blk_there {w : World} {g : Nat} {t : TypeId} {X : List Value} (h : Blk w g t X.toArray) {o n : Nat} (hn : o + n ≤ X.length) : w.there g o n := fun j hj => by
  refine ⟨?_, h.frozen _⟩
  rw [h.cell (o + j)]
  simp [List.getElem?_eq_getElem (show o + j < X.length by omega)]
theorem blk_setCells : ∀ (vs : List Value) {w : World} {g : Nat} {t : TypeId} {X : List Value} {o : Nat}, Blk w g t X.toArray → o + vs.length ≤ X.length → Blk (w.setCells g o vs) g t (splice X o vs).toArray
  | [], w, g, t, X, o, h, _ => by
    have e : splice X o [] = X := by unfold splice; simp
    rw [e]
    exact h
  | v :: vs, w, g, t, X, o, h, hn => by
    have h1 : Blk (w.setCell ⟨g, o, none⟩ v) g t (X.set o v).toArray := by
      have := h.set_ o v
      simpa using this
    have h2 := blk_setCells vs (o := o + 1) h1 (by simp at hn ⊢; omega)
    have e : splice (X.set o v) (o + 1) vs = splice X o (v :: vs) := by
      have ho : o < X.length := by simp at hn; omega
      have ht : (X.take (o + 1)).set o v = X.take o ++ [v] := by
        rw [List.take_add_one, List.getElem?_eq_getElem ho, List.set_append, if_neg (by simp; omega), show o - (X.take o).length = 0 by simp; omega]
        rfl
      unfold splice
      rw [List.take_set, List.drop_set, if_pos (by omega), ht]
      simp [Nat.add_assoc, Nat.add_comm 1]
    rw [e] at h2
    exact h2
theorem below_setCells : ∀ (vs : List Value) {B : Nat} {a w : World} {g o : Nat}, Below B a w → B ≤ g → Below B a (w.setCells g o vs)
  | [], _, _, _, _, _, h, _ => h
  | v :: vs, _, _, _, g, o, h, hg => below_setCells vs (h.setCell (p := ⟨g, o, none⟩) hg v) hg

end Go.Proofs.YtdndafdninnjfaaGreat
/-
  Parts as one list of twenty-four cells; what the reference's lay of layer 6 answers.
-/
namespace Go.Proofs.YtdndafdninnjfaaGreat
open Go.RowKit

/-- the cells of parts -/
def PL (h : Int) (M : Nat → Int) (m : Int) (B : Nat → Int) (p a : Int) (c : Bool) (l : Int) : List Value := [.int .i64 h, .int .i64 (M 0), .int .i64 (M 1), .int .i64 (M 2), .int .i64 (M 3), .int .i64 (M 4), .int .i64 (M 5), .int .i64 (M 6), .int .i64 (M 7), .int .i64 (M 8), .int .i64 (M 9), .int .i64 (M 10), .int .i64 (M 11), .int .i64 m, .int .i64 (B 0), .int .i64 (B 1), .int .i64 (B 2), .int .i64 (B 3), .int .i64 (B 4), .int .i64 (B 5), .int .i64 p, .int .i64 a, .bool c, .int .i64 l]
theorem results_cell2 {fn : Func} {tmps : Array Value} {s r : Tmp} {t : TypeId} {g : Nat} {v u : Value} {w : World} (hr : fn.results = #[.cell s t, .tmp r]) (hp : tmps.getD s undef = .pointer (some ⟨g, 0, none⟩)) (hu : tmps.getD r undef = u) (hl : (loadVar t ⟨g, 0, none⟩).run Tryz.prog w = .ok v w) : (results fn tmps).run Tryz.prog w = .ok (.tuple #[v, u]) w := by
  unfold results
  rw [hr]
  have hp' : tmps[s]?.getD undef = .pointer (some ⟨g, 0, none⟩) := by simpa using hp
  have hu' : tmps[r]?.getD undef = u := by simpa using hu
  simp [hp', hu', hl, asAddr]

/-! the other kinds -/
end Go.Proofs.YtdndafdninnjfaaGreat
/-
  What the reference's Of of layer 6 answers; '==' of two parts.
-/
namespace Go.Proofs.YtdndafdninnjfaaGreat
open Go.RowKit

def kOk (k : Int) : Bool := decide (0 ≤ k) && decide (k ≤ 4)
/-- a set with a kind more -/
def addK (s k : Int) : Int := if hasB s k then s else s + 2 ^ k.toNat
def ksOk (ks : List Int) : Bool := ks.all kOk
theorem kOk_cases {k : Int} (h : kOk k = true) : k = 0 ∨ k = 1 ∨ k = 2 ∨ k = 3 ∨ k = 4 := by
  unfold kOk at h
  simp at h
  omega
theorem addK_bound {s k : Int} (hs : 0 ≤ s ∧ s ≤ 31) (hk : kOk k = true) : 0 ≤ addK s k ∧ addK s k ≤ 31 := by
  unfold addK
  by_cases c : hasB s k = true
  · rw [if_pos c]; exact hs
  · rw [if_neg c]
    have c' : hasB s k = false := by simpa using c
    rcases kOk_cases hk with rfl | rfl | rfl | rfl | rfl
    · have : ¬ (s % 2 = 1) := by simpa [hasB, hasN] using c'
      show 0 ≤ s + 1 ∧ s + 1 ≤ 31
      omega
    · have : ¬ (s / 2 % 2 = 1) := by simpa [hasB, hasN] using c'
      show 0 ≤ s + 2 ∧ s + 2 ≤ 31
      omega
    · have : ¬ (s / 4 % 2 = 1) := by simpa [hasB, hasN] using c'
      show 0 ≤ s + 4 ∧ s + 4 ≤ 31
      omega
    · have : ¬ (s / 8 % 2 = 1) := by simpa [hasB, hasN] using c'
      show 0 ≤ s + 8 ∧ s + 8 ≤ 31
      omega
    · have : ¬ (s / 16 % 2 = 1) := by simpa [hasB, hasN] using c'
      show 0 ≤ s + 16 ∧ s + 16 ≤ 31
      omega
end Go.Proofs.YtdndafdninnjfaaGreat
/-
  '==' of vectors, matrices, boxes and parts.
-/
namespace Go.Proofs.YtdndafdninnjfaaGreat
open Go.RowKit

def eq12 (M N : Nat → Int) : Bool := (M 0 == N 0) && (M 1 == N 1) && (M 2 == N 2) && (M 3 == N 3) && (M 4 == N 4) && (M 5 == N 5) && (M 6 == N 6) && (M 7 == N 7) && (M 8 == N 8) && (M 9 == N 9) && (M 10 == N 10) && (M 11 == N 11)
def eq6 (B C : Nat → Int) : Bool := ((B 0 == C 0) && (B 1 == C 1) && (B 2 == C 2)) && ((B 3 == C 3) && (B 4 == C 4) && (B 5 == C 5))
theorem eq12_self (M : Nat → Int) : eq12 M M = true := by unfold eq12; simp
theorem eq6_self (B : Nat → Int) : eq6 B B = true := by unfold eq6; simp

end Go.Proofs.YtdndafdninnjfaaGreat
/-
  What the reference's Right of layer 6 answers.
-/
namespace Go.Proofs.YtdndafdninnjfaaGreat
open Go.RowKit

def zI : Nat → Int := fun _ => 0
/-- of a kind: are its values nothing? -/
def zkB (M : Nat → Int) (m : Int) (B : Nat → Int) (p a : Int) (c : Bool) (l : Int) (k : Nat) : Bool :=
  if k = 0 then eq12 zI M else if k = 1 then (0 == m) && eq6 zI B else if k = 2 then (0 == p) && (0 == a) && (false == c) else if k = 3 then (0 == l) else true
/-- may kind k be as it is -/
def kindB (h : Int) (M : Nat → Int) (m : Int) (B : Nat → Int) (p a : Int) (c : Bool) (l : Int) (k : Nat) : Bool := hasN h k || zkB M m B p a c l k
def kindsB (h : Int) (M : Nat → Int) (m : Int) (B : Nat → Int) (p a : Int) (c : Bool) (l : Int) : Bool := kindB h M m B p a c l 0 && kindB h M m B p a c l 1 && kindB h M m B p a c l 2 && kindB h M m B p a c l 3 && kindB h M m B p a c l 4
def restB (M : Nat → Int) (m : Int) (B : Nat → Int) (p a : Int) (l : Int) : Bool := okM M && inB m 255 && okBox B && inB p 63 && inB a 255 && inB l 255
def rightP (h : Int) (M : Nat → Int) (m : Int) (B : Nat → Int) (p a : Int) (c : Bool) (l : Int) : Bool := decide (0 ≤ h) && decide (h ≤ 31) && kindsB h M m B p a c l && restB M m B p a l
end Go.Proofs.YtdndafdninnjfaaGreat
/-
  Parts as tuples; what the reference's With of layer 6 answers.
-/
namespace Go.Proofs.YtdndafdninnjfaaGreat
open Go.RowKit

abbrev PT := Int × (Nat → Int) × Int × (Nat → Int) × Int × Int × Bool × Int
def pl (P : PT) : List Value := PL P.1 P.2.1 P.2.2.1 P.2.2.2.1 P.2.2.2.2.1 P.2.2.2.2.2.1 P.2.2.2.2.2.2.1 P.2.2.2.2.2.2.2
def zT : PT := (0, zI, 0, zI, 0, 0, false, 0)
def rightT (P : PT) : Bool := rightP P.1 P.2.1 P.2.2.1 P.2.2.2.1 P.2.2.2.2.1 P.2.2.2.2.2.1 P.2.2.2.2.2.2.1 P.2.2.2.2.2.2.2
def layT (k : Int) (P Q : PT) : PT :=
  if k = 0 then (P.1, Q.2.1, P.2.2) else if k = 1 then (P.1, P.2.1, Q.2.2.1, Q.2.2.2.1, P.2.2.2.2) else if k = 2 then (P.1, P.2.1, P.2.2.1, P.2.2.2.1, Q.2.2.2.2.1, Q.2.2.2.2.2.1, Q.2.2.2.2.2.2.1, P.2.2.2.2.2.2.2) else if k = 3 then (P.1, P.2.1, P.2.2.1, P.2.2.2.1, P.2.2.2.2.1, P.2.2.2.2.2.1, P.2.2.2.2.2.2.1, Q.2.2.2.2.2.2.2) else P
theorem layT_has (k : Int) (P Q : PT) : (layT k P Q).1 = P.1 := by
  unfold layT
  by_cases h0 : k = 0
  · rw [if_pos h0]
  · rw [if_neg h0]
    by_cases h1 : k = 1
    · rw [if_pos h1]
    · rw [if_neg h1]
      by_cases h2 : k = 2
      · rw [if_pos h2]
      · rw [if_neg h2]
        by_cases h3 : k = 3
        · rw [if_pos h3]
        · rw [if_neg h3]
/-- parts with one kind more of others -/
def stepW (Q P : PT) (k : Int) : PT := (addK P.1 k, (layT k P Q).2)
def hasAll (s : Int) (ks : List Int) : Bool := ks.all (hasB s)
def withT (P Q : PT) (ks : List Int) : PT := ks.foldl (stepW Q) P
def withOk (P Q : PT) (ks : List Int) : Bool := rightT P && rightT Q && hasAll Q.1 ks
def withE (P Q : PT) (ks : List Int) : Int := if withOk P Q ks then 0 else 1
def withV (P Q : PT) (ks : List Int) : PT := if withOk P Q ks then withT P Q ks else zT
theorem has_kOk {s k : Int} (h : hasB s k = true) : kOk k = true := by
  unfold hasB at h
  unfold kOk
  rw [Bool.and_eq_true] at h
  exact h.1
theorem right_bound {P : PT} (h : rightT P = true) : 0 ≤ P.1 ∧ P.1 ≤ 31 := by
  unfold rightT rightP at h
  simp only [Bool.and_eq_true, decide_eq_true_eq] at h
  exact h.1.1

end Go.Proofs.YtdndafdninnjfaaGreat
/-
  What the reference's Without of layer 6 answers.
-/
namespace Go.Proofs.YtdndafdninnjfaaGreat
open Go.RowKit

def subK (s k : Int) : Int := if hasB s k then s - 2 ^ k.toNat else s
theorem subK_bound {s k : Int} (hs : 0 ≤ s ∧ s ≤ 31) : 0 ≤ subK s k ∧ subK s k ≤ 31 := by
  unfold subK
  by_cases c : hasB s k = true
  · rw [if_pos c]
    rcases kOk_cases (has_kOk c) with rfl | rfl | rfl | rfl | rfl
    · have : s % 2 = 1 := by simpa [hasB, hasN] using c
      show 0 ≤ s - 1 ∧ s - 1 ≤ 31
      omega
    · have : s / 2 % 2 = 1 := by simpa [hasB, hasN] using c
      show 0 ≤ s - 2 ∧ s - 2 ≤ 31
      omega
    · have : s / 4 % 2 = 1 := by simpa [hasB, hasN] using c
      show 0 ≤ s - 4 ∧ s - 4 ≤ 31
      omega
    · have : s / 8 % 2 = 1 := by simpa [hasB, hasN] using c
      show 0 ≤ s - 8 ∧ s - 8 ≤ 31
      omega
    · have : s / 16 % 2 = 1 := by simpa [hasB, hasN] using c
      show 0 ≤ s - 16 ∧ s - 16 ≤ 31
      omega
  · rw [if_neg c]; exact hs
/-- parts without a kind -/
def stepO (P : PT) (k : Int) : PT := layT k (subK P.1 k, P.2) zT
def woutT (P : PT) (ks : List Int) : PT := ks.foldl stepO P
def woutOk (P : PT) (ks : List Int) : Bool := rightT P && ksOk ks
def woutE (P : PT) (ks : List Int) : Int := if woutOk P ks then 0 else 1
def woutV (P : PT) (ks : List Int) : PT := if woutOk P ks then woutT P ks else zT
end Go.Proofs.YtdndafdninnjfaaGreat
/-
  Sets of kinds, bit by bit: plain arithmetic; parts as those that a set picks; With and Without, bit by bit.
-/
namespace Go.Proofs.YtdndafdninnjfaaGreat
open Go.RowKit

/-! finite tables -/
theorem add_tab : (List.range 32).all (fun s => (List.range 5).all fun k => (List.range 5).all fun j => decide (hasN (addK (s : Int) (k : Int)) j = (hasN s j || (k == j)))) = true := by kernel_rfl
theorem sub_tab : (List.range 32).all (fun s => (List.range 5).all fun k => (List.range 5).all fun j => decide (hasN (subK (s : Int) (k : Int)) j = (hasN s j && !(k == j)))) = true := by kernel_rfl
theorem tab {n : Nat} {f : Nat → Bool} (h : (List.range n).all f = true) {k : Nat} (hk : k < n) : f k = true := List.all_eq_true.1 h k (List.mem_range.2 hk)

theorem nat_of {s : Int} (h : 0 ≤ s ∧ s ≤ 31) : ∃ n : Nat, s = (n : Int) ∧ n < 32 := ⟨s.toNat, by omega, by omega⟩
theorem kind_of {k : Int} (h : kOk k = true) : ∃ n : Nat, k = (n : Int) ∧ n < 5 := ⟨k.toNat, by rcases kOk_cases h with rfl | rfl | rfl | rfl | rfl <;> rfl, by rcases kOk_cases h with rfl | rfl | rfl | rfl | rfl <;> decide⟩
theorem add_has {s k : Int} (hs : 0 ≤ s ∧ s ≤ 31) (hk : kOk k = true) {j : Nat} (hj : j < 5) : hasN (addK s k) j = (hasN s j || (k == (j : Int))) := by
  obtain ⟨n, rfl, hn⟩ := nat_of hs
  obtain ⟨m, rfl, hm⟩ := kind_of hk
  have := of_decide_eq_true (tab (tab (tab add_tab hn) hm) hj)
  rw [this]
  congr 1
  rw [Bool.eq_iff_iff]; simp; omega
theorem sub_has {s k : Int} (hs : 0 ≤ s ∧ s ≤ 31) (hk : kOk k = true) {j : Nat} (hj : j < 5) : hasN (subK s k) j = (hasN s j && !(k == (j : Int))) := by
  obtain ⟨n, rfl, hn⟩ := nat_of hs
  obtain ⟨m, rfl, hm⟩ := kind_of hk
  have := of_decide_eq_true (tab (tab (tab sub_tab hn) hm) hj)
  rw [this]
  congr 2
  rw [Bool.eq_iff_iff]; simp; omega
/-! folds -/
/-! the kinds of a set, and what they pick -/
/-! which parts may be -/
end Go.Proofs.YtdndafdninnjfaaGreat
/-
  What the program's bit, within, Of, Kinds and Has of layer 6 answer.
-/
namespace Go.Proofs.YtdndafdninnjfaaGreat
open Go.RowKit

end Go.Proofs.YtdndafdninnjfaaGreat
/-
  What the program's closures of layer 6 (a kind's values laid) answer.
-/
namespace Go.Proofs.YtdndafdninnjfaaGreat
open Go.RowKit

/-! all of them, by their kinds -/
end Go.Proofs.YtdndafdninnjfaaGreat
/-
  What the program's layingsOf (a map of closures) and lay of layer 6 answer.
-/
namespace Go.Proofs.YtdndafdninnjfaaGreat
open Go.RowKit

/-! a map in the heap's last block -/
end Go.Proofs.YtdndafdninnjfaaGreat
/-
  What the program's lay of layer 6 answers.
-/
namespace Go.Proofs.YtdndafdninnjfaaGreat
open Go.RowKit

end Go.Proofs.YtdndafdninnjfaaGreat
/-
  What the program's only, bare, valued and Right of layer 6 answer.
-/
namespace Go.Proofs.YtdndafdninnjfaaGreat
open Go.RowKit

end Go.Proofs.YtdndafdninnjfaaGreat
/-
  What the program's valued, Right, With, Without and Drawn of layer 6 answer.
-/
namespace Go.Proofs.YtdndafdninnjfaaGreat
open Go.RowKit

/-- a load of many cells that is guarded, and wanted -/
theorem wpList_load_g {ops : Array Oper} {rest : List Oper} {op : Oper} {a : Act} {w : World} {Q : Exit → Act → World → Prop} (hw : Region.wanted op (yielded ops a.tmps) = true) (ty : TypeId) (x : Operand) (ho : op.op = .load ty x)
    (b o : Nat) (hx : a.eval x = .pointer (some ⟨b, o, none⟩)) (cs : List Value) (d : TypeDesc) (hc : w.rangeAt b o cs)
    (hu : Tryz.prog.underlying ty = some d) (hd : d.isRow = true) (hi : (Tryz.prog.info? ty).map (·.size) = some cs.length)
    (h : wpList Tryz.prog ops Q rest (a.put op.dst (.agg cs.toArray)) w) : wpList Tryz.prog ops Q (op :: rest) a w := by
  rw [wpList, if_pos hw]
  exact Or.inl (wp_load_mid ty x ho b o hx cs d hc hu hd hi h)

end Go.Proofs.YtdndafdninnjfaaGreat
/-
  What the program's With, Without and Drawn of layer 6 answer.
-/
namespace Go.Proofs.YtdndafdninnjfaaGreat
open Go.RowKit

end Go.Proofs.YtdndafdninnjfaaGreat
/-
  With and Without, bit by bit: plain arithmetic of parts.
-/
namespace Go.Proofs.YtdndafdninnjfaaGreat
open Go.RowKit

/-! what may be, stays so -/
theorem right_step {P Q : PT} {k : Int} (hp : rightT P = true) (hq : rightT Q = true) (hk : hasB Q.1 k = true) : rightT (stepW Q P k) = true := by
  have hb := right_bound hp
  have hok := has_kOk hk
  have hb2 := addK_bound hb hok
  have f0 := add_has hb hok (j := 0) (by omega)
  have f1 := add_has hb hok (j := 1) (by omega)
  have f2 := add_has hb hok (j := 2) (by omega)
  have f3 := add_has hb hok (j := 3) (by omega)
  have f4 := add_has hb hok (j := 4) (by omega)
  obtain ⟨h, M, m, B, p, a, c, l⟩ := P
  obtain ⟨h2, N, n, C, q, b, d, k2⟩ := Q
  unfold rightT rightP kindsB kindB restB at hp hq
  simp only [Bool.and_eq_true] at hp hq
  obtain ⟨⟨_, ⟨⟨⟨k0, k1⟩, k2⟩, k3⟩, k4⟩, ⟨⟨⟨⟨r0, r1⟩, r2⟩, r3⟩, r4⟩, r5⟩ := hp
  obtain ⟨⟨_, ⟨⟨⟨_, _⟩, _⟩, _⟩, _⟩, ⟨⟨⟨⟨q0, q1⟩, q2⟩, q3⟩, q4⟩, q5⟩ := hq
  unfold rightT rightP kindsB kindB restB stepW
  simp only [Bool.and_eq_true, decide_eq_true hb2.1, decide_eq_true hb2.2]
  clear hb2 hb hk
  rcases kOk_cases hok with rfl | rfl | rfl | rfl | rfl
  · exact ⟨⟨⟨trivial, trivial⟩, ⟨⟨⟨by rw [f0]; simp, by rw [f1]; simpa [layT, zkB] using k1⟩, by rw [f2]; simpa [layT, zkB] using k2⟩, by rw [f3]; simpa [layT, zkB] using k3⟩, by simp [zkB]⟩, ⟨⟨⟨⟨q0, r1⟩, r2⟩, r3⟩, r4⟩, r5⟩
  · exact ⟨⟨⟨trivial, trivial⟩, ⟨⟨⟨by rw [f0]; simpa [layT, zkB] using k0, by rw [f1]; simp⟩, by rw [f2]; simpa [layT, zkB] using k2⟩, by rw [f3]; simpa [layT, zkB] using k3⟩, by simp [zkB]⟩, ⟨⟨⟨⟨r0, q1⟩, q2⟩, r3⟩, r4⟩, r5⟩
  · exact ⟨⟨⟨trivial, trivial⟩, ⟨⟨⟨by rw [f0]; simpa [layT, zkB] using k0, by rw [f1]; simpa [layT, zkB] using k1⟩, by rw [f2]; simp⟩, by rw [f3]; simpa [layT, zkB] using k3⟩, by simp [zkB]⟩, ⟨⟨⟨⟨r0, r1⟩, r2⟩, q3⟩, q4⟩, r5⟩
  · exact ⟨⟨⟨trivial, trivial⟩, ⟨⟨⟨by rw [f0]; simpa [layT, zkB] using k0, by rw [f1]; simpa [layT, zkB] using k1⟩, by rw [f2]; simpa [layT, zkB] using k2⟩, by rw [f3]; simp⟩, by simp [zkB]⟩, ⟨⟨⟨⟨r0, r1⟩, r2⟩, r3⟩, r4⟩, q5⟩
  · exact ⟨⟨⟨trivial, trivial⟩, ⟨⟨⟨by rw [f0]; simpa [layT, zkB] using k0, by rw [f1]; simpa [layT, zkB] using k1⟩, by rw [f2]; simpa [layT, zkB] using k2⟩, by rw [f3]; simpa [layT, zkB] using k3⟩, by rw [f4]; simp⟩, ⟨⟨⟨⟨r0, r1⟩, r2⟩, r3⟩, r4⟩, r5⟩
theorem right_with : ∀ (ks : List Int) {P Q : PT}, rightT P = true → rightT Q = true → hasAll Q.1 ks = true → rightT (withT P Q ks) = true
  | [], _, _, hp, _, _ => hp
  | k :: r, P, Q, hp, hq, h => by
    unfold hasAll at h
    rw [List.all_cons, Bool.and_eq_true] at h
    exact right_with r (right_step hp hq h.1) hq h.2
theorem okM_z : okM zI = true := by decide
theorem okBox_z : okBox zI = true := by decide
theorem right_out {P : PT} {k : Int} (hp : rightT P = true) (hok : kOk k = true) : rightT (stepO P k) = true := by
  have hb := right_bound hp
  have hb2 := subK_bound (k := k) hb
  have f0 := sub_has hb hok (j := 0) (by omega)
  have f1 := sub_has hb hok (j := 1) (by omega)
  have f2 := sub_has hb hok (j := 2) (by omega)
  have f3 := sub_has hb hok (j := 3) (by omega)
  have f4 := sub_has hb hok (j := 4) (by omega)
  obtain ⟨h, M, m, B, p, a, c, l⟩ := P
  unfold rightT rightP kindsB kindB restB at hp
  simp only [Bool.and_eq_true] at hp
  obtain ⟨⟨_, ⟨⟨⟨k0, k1⟩, k2⟩, k3⟩, k4⟩, ⟨⟨⟨⟨r0, r1⟩, r2⟩, r3⟩, r4⟩, r5⟩ := hp
  have z12 := eq12_self zI
  have z6 := eq6_self zI
  have zM := okM_z
  have zB := okBox_z
  have hd := layT_has k (subK h k, M, m, B, p, a, c, l) zT
  unfold rightT rightP kindsB kindB restB stepO
  rw [hd]
  simp only [Bool.and_eq_true, decide_eq_true hb2.1, decide_eq_true hb2.2]
  clear hb2 hb hd
  rcases kOk_cases hok with rfl | rfl | rfl | rfl | rfl
  · exact ⟨⟨⟨trivial, trivial⟩, ⟨⟨⟨by simp [layT, zT, zkB, z12], by rw [f1]; simpa [layT, zkB] using k1⟩, by rw [f2]; simpa [layT, zkB] using k2⟩, by rw [f3]; simpa [layT, zkB] using k3⟩, by simp [zkB]⟩, ⟨⟨⟨⟨zM, r1⟩, r2⟩, r3⟩, r4⟩, r5⟩
  · exact ⟨⟨⟨trivial, trivial⟩, ⟨⟨⟨by rw [f0]; simpa [layT, zkB] using k0, by simp [layT, zT, zkB, z6]⟩, by rw [f2]; simpa [layT, zkB] using k2⟩, by rw [f3]; simpa [layT, zkB] using k3⟩, by simp [zkB]⟩, ⟨⟨⟨⟨r0, rfl⟩, zB⟩, r3⟩, r4⟩, r5⟩
  · exact ⟨⟨⟨trivial, trivial⟩, ⟨⟨⟨by rw [f0]; simpa [layT, zkB] using k0, by rw [f1]; simpa [layT, zkB] using k1⟩, by simp [layT, zT, zkB]⟩, by rw [f3]; simpa [layT, zkB] using k3⟩, by simp [zkB]⟩, ⟨⟨⟨⟨r0, r1⟩, r2⟩, rfl⟩, rfl⟩, r5⟩
  · exact ⟨⟨⟨trivial, trivial⟩, ⟨⟨⟨by rw [f0]; simpa [layT, zkB] using k0, by rw [f1]; simpa [layT, zkB] using k1⟩, by rw [f2]; simpa [layT, zkB] using k2⟩, by simp [layT, zT, zkB]⟩, by simp [zkB]⟩, ⟨⟨⟨⟨r0, r1⟩, r2⟩, r3⟩, r4⟩, rfl⟩
  · exact ⟨⟨⟨trivial, trivial⟩, ⟨⟨⟨by rw [f0]; simpa [layT, zkB] using k0, by rw [f1]; simpa [layT, zkB] using k1⟩, by rw [f2]; simpa [layT, zkB] using k2⟩, by rw [f3]; simpa [layT, zkB] using k3⟩, by simp [zkB]⟩, ⟨⟨⟨⟨r0, r1⟩, r2⟩, r3⟩, r4⟩, r5⟩
theorem right_wout : ∀ (ks : List Int) {P : PT}, rightT P = true → ksOk ks = true → rightT (woutT P ks) = true
  | [], _, hp, _ => hp
  | k :: r, P, hp, h => by
    unfold ksOk at h
    rw [List.all_cons, Bool.and_eq_true] at h
    exact right_wout r (right_out hp h.1) h.2

/-! there and back -/
end Go.Proofs.YtdndafdninnjfaaGreat
/-
  The live question of layer 6, whose answer is fixed.
-/
namespace Go.Proofs.YtdndafdninnjfaaGreat
open Go.RowKit

def q6 : PT := (4, zI, 0, zI, 3, 0, true, 0)
def r6 : PT := (0, zI, 0, zI, 1, 0, false, 0)
end Go.Proofs.YtdndafdninnjfaaGreat
/-
  Arguments of layer 6, opened: two parts, a slice of kinds.
-/
namespace Go.Proofs.YtdndafdninnjfaaGreat
open Go.ChangeShapes Go.WideShapes Go.ChangeAt Go.RowKit Go.Deep

section
variable {H : Type} {enc : TypeId × Value → H} {w : World} {base : Nat} {spare : Nat → Bool} {held : Bool}

end
end Go.Proofs.YtdndafdninnjfaaGreat
