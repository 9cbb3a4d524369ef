/-
  11 texts in one file, each with its own heading.
-/
import Derived.Test.YtjcibffhlhdjeaaMU03
import Derived.WalkKit
import Derived.ProofKit
import Derived.OpenShut
import Derived.Deep.Slices
import Derived.Laws.IdiomArrays
/-
  What package affine's Mul answers: the product of a list of matrices.
-/
namespace Go.Proofs.Ytjcibffhlhdjeaa
open Go.RowKit

end Go.Proofs.Ytjcibffhlhdjeaa
namespace Go.Proofs.Ytjcibffhlhdjeaa
open Go.ChangeShapes Go.WideShapes Go.ChangeAt Go.RowKit Go.Deep

end Go.Proofs.Ytjcibffhlhdjeaa
namespace Go.Proofs.Ytjcibffhlhdjeaa
open Go.ChangeShapes Go.WideShapes Go.ChangeAt Go.RowKit Go.Deep

section
variable {H : Type} {enc : TypeId × Value → H} {w : World} {base : Nat} {spare : Nat → Bool} {held : Bool}

theorem take1_at {cs : List Value} {i : Nat} {v : Value} (h : (cs.drop i).take 1 = [v]) : cs[i]? = some v := by
  have e := congrArg (fun l => l[0]?) h
  simpa using e

theorem open_nums {t e : TypeId} {k : IntKind} {n fuel : Nat} {cs : List Value} {x : DataW H × List MemPlace} (ht : Try.prog.underlying t = some (.array n e)) (he : Try.prog.underlying e = some (.int k)) (hc : Try.prog.cellsOf e = 1)
    (h : DataW.trod enc Try.prog w base spare held fuel t cs = some x) : ∃ M : Nat → Int, ∀ i, i < n → cs[i]? = some (.int k (M i)) ∧ (Lit.int k (M i)).wf = true := by
  obtain ⟨xs, m, _, _, _, hxl, hx⟩ := DataW.trod_array ht h
  rw [hc] at hx
  refine choose_lt (α := Int) (n := n) (p := fun i v => cs[i]? = some (.int k v) ∧ (Lit.int k v).wf = true) (fun i hi => ?_)
  have e0 : xs[i]? = some (xs[i]'(by omega)) := List.getElem?_eq_getElem (by omega)
  obtain ⟨v, ev, _, wv⟩ := DataW.trod_int he ((hx i hi).trans e0)
  rw [Nat.mul_one] at ev
  exact ⟨v, take1_at ev, wv⟩

end
end Go.Proofs.Ytjcibffhlhdjeaa
namespace Go.Proofs.Ytjcibffhlhdjeaa
open Go.ChangeShapes Go.WideShapes Go.ChangeAt Go.RowKit Go.Deep

def Nums (cs : List Value) (n : Nat) (M : Nat → Int) : Prop := ∀ i, i < n → cs[i]? = some (.int .i64 (M i))
theorem nums_piece {cs : List Value} {o n : Nat} {M : Nat → Int} (h : Nums ((cs.drop o).take n) n M) {i : Nat} (hi : i < n) : cs[o + i]? = some (.int .i64 (M i)) := by
  have := h i hi
  rw [List.getElem?_take, if_pos hi, List.getElem?_drop] at this
  exact this
theorem nums_join {cs : List Value} {n m : Nat} {M N : Nat → Int} (h : Nums ((cs.drop 0).take n) n M) (k : Nums ((cs.drop n).take m) m N) : Nums cs (n + m) (fun i => if i < n then M i else N (i - n)) := fun i hi => by
  show cs[i]? = some (.int .i64 (if i < n then M i else N (i - n)))
  by_cases c : i < n
  · rw [if_pos c]
    have := nums_piece h c
    rwa [Nat.zero_add] at this
  · rw [if_neg c]
    have := nums_piece k (i := i - n) (by omega)
    rwa [show n + (i - n) = i by omega] at this
section
variable {H : Type} {enc : TypeId × Value → H} {w : World} {base : Nat} {spare : Nat → Bool} {held : Bool}

theorem vec_nums {fuel : Nat} {cs : List Value} {x : DataW H × List MemPlace} (h : DataW.trod enc Try.prog w base spare held fuel 38 cs = some x) : ∃ M, Nums cs 3 M := by
  obtain ⟨M, hM⟩ := open_nums Try.underlying38 Try.underlying36 (by kernel_rfl) h
  exact ⟨M, fun i hi => (hM i hi).1⟩
theorem box_nums {fuel : Nat} {cs : List Value} {x : DataW H × List MemPlace} (h : DataW.trod enc Try.prog w base spare held fuel 48 cs = some x) : ∃ M, Nums cs 6 M := by
  obtain ⟨xs, n, _, _, _, hxl, hx⟩ := DataW.trod_struct Try.underlying48 h
  have hxl2 : xs.length = 2 := hxl
  have hC : Try.prog.cellsOf 38 = 3 := by kernel_rfl
  have h0 : DataW.trod enc Try.prog w base spare held n 38 ((cs.drop 0).take 3) = some (xs[0]'(by omega)) := by
    rw [← hC]; exact (hx 0 _ rfl).trans (List.getElem?_eq_getElem (by omega))
  have h1 : DataW.trod enc Try.prog w base spare held n 38 ((cs.drop 3).take 3) = some (xs[1]'(by omega)) := by
    have := (hx 1 _ rfl).trans (List.getElem?_eq_getElem (show 1 < xs.length by omega))
    exact (congrArg (fun c => DataW.trod enc Try.prog w base spare held n 38 ((cs.drop 3).take c)) hC.symm).trans this
  obtain ⟨M, hM⟩ := vec_nums h0
  obtain ⟨N, hN⟩ := vec_nums h1
  exact ⟨_, nums_join hM hN⟩
theorem plane_nums {fuel : Nat} {cs : List Value} {x : DataW H × List MemPlace} (h : DataW.trod enc Try.prog w base spare held fuel 40 cs = some x) : ∃ M, Nums cs 4 M := by
  obtain ⟨xs, n, _, _, _, hxl, hx⟩ := DataW.trod_struct Try.underlying40 h
  have hxl2 : xs.length = 2 := hxl
  have hC : Try.prog.cellsOf 38 = 3 := by kernel_rfl
  have hD : Try.prog.cellsOf 36 = 1 := by kernel_rfl
  have h0 : DataW.trod enc Try.prog w base spare held n 38 ((cs.drop 0).take 3) = some (xs[0]'(by omega)) := by
    rw [← hC]; exact (hx 0 _ rfl).trans (List.getElem?_eq_getElem (by omega))
  have h1 : DataW.trod enc Try.prog w base spare held n 36 ((cs.drop 3).take 1) = some (xs[1]'(by omega)) := by
    have := (hx 1 _ rfl).trans (List.getElem?_eq_getElem (show 1 < xs.length by omega))
    exact (congrArg (fun c => DataW.trod enc Try.prog w base spare held n 36 ((cs.drop 3).take c)) hD.symm).trans this
  obtain ⟨M, hM⟩ := vec_nums h0
  obtain ⟨v, ev, _, _⟩ := DataW.trod_int Try.underlying36 h1
  refine ⟨_, nums_join (m := 1) (N := fun _ => v) hM (fun i hi => ?_)⟩
  obtain rfl : i = 0 := by omega
  rw [ev]
  rfl
end
end Go.Proofs.Ytjcibffhlhdjeaa
namespace Go.Proofs.Ytjcibffhlhdjeaa
open Go.RowKit

def hasN (s : Int) (k : Nat) : Bool := decide (s / 2 ^ k % 2 = 1)
def inB (n m : Int) : Bool := decide (0 ≤ n) && decide (n ≤ m)
def splice (X : List Value) (o : Nat) (vs : List Value) : List Value := X.take o ++ vs ++ X.drop (o + vs.length)
theorem splice_all {X Z : List Value} (h : X.length = Z.length) : splice Z 0 X = X := by
  unfold splice; rw [h]; simp
theorem blk_range {w : World} {g : Nat} {t : TypeId} {X : List Value} (h : Blk w g t X.toArray) (o n : Nat) : w.rangeAt g o ((X.drop o).take n) := fun j v hv => by
  rw [h.cell (o + j)]
  rw [List.getElem?_take] at hv
  by_cases c : j < n
  · rw [if_pos c, List.getElem?_drop] at hv
    simpa using hv
  · rw [if_neg c] at hv; cases hv
theorem blk_whole {w : World} {g : Nat} {t : TypeId} {X : List Value} (h : Blk w g t X.toArray) : w.rangeAt g 0 X := fun j v hv => by
  rw [h.cell (0 + j)]
  simpa using hv
theorem blk_there {w : World} {g : Nat} {t : TypeId} {X : List Value} (h : Blk w g t X.toArray) {o n : Nat} (hn : o + n ≤ X.length) : w.there g o n := fun j hj => by
  refine ⟨?_, h.frozen _⟩
  rw [h.cell (o + j)]
  simp [List.getElem?_eq_getElem (show o + j < X.length by omega)]
theorem blk_setCells : ∀ (vs : List Value) {w : World} {g : Nat} {t : TypeId} {X : List Value} {o : Nat}, Blk w g t X.toArray → o + vs.length ≤ X.length → Blk (w.setCells g o vs) g t (splice X o vs).toArray
  | [], w, g, t, X, o, h, _ => by
    have e : splice X o [] = X := by unfold splice; simp
    rw [e]
    exact h
  | v :: vs, w, g, t, X, o, h, hn => by
    have h1 : Blk (w.setCell ⟨g, o, none⟩ v) g t (X.set o v).toArray := by
      have := h.set_ o v
      simpa using this
    have h2 := blk_setCells vs (o := o + 1) h1 (by simp at hn ⊢; omega)
    have e : splice (X.set o v) (o + 1) vs = splice X o (v :: vs) := by
      have ho : o < X.length := by simp at hn; omega
      have ht : (X.take (o + 1)).set o v = X.take o ++ [v] := by
        rw [List.take_add_one, List.getElem?_eq_getElem ho, List.set_append, if_neg (by simp; omega), show o - (X.take o).length = 0 by simp; omega]
        rfl
      unfold splice
      rw [List.take_set, List.drop_set, if_pos (by omega), ht]
      simp [Nat.add_assoc, Nat.add_comm 1]
    rw [e] at h2
    exact h2
theorem below_setCells : ∀ (vs : List Value) {B : Nat} {a w : World} {g o : Nat}, Below B a w → B ≤ g → Below B a (w.setCells g o vs)
  | [], _, _, _, _, _, h, _ => h
  | v :: vs, _, _, _, g, o, h, hg => below_setCells vs (h.setCell (p := ⟨g, o, none⟩) hg v) hg

def PL (h : Int) (M : Nat → Int) (m : Int) (B : Nat → Int) (p a : Int) (c : Bool) (l : Int) : List Value := [.int .i64 h, .int .i64 (M 0), .int .i64 (M 1), .int .i64 (M 2), .int .i64 (M 3), .int .i64 (M 4), .int .i64 (M 5), .int .i64 (M 6), .int .i64 (M 7), .int .i64 (M 8), .int .i64 (M 9), .int .i64 (M 10), .int .i64 (M 11), .int .i64 m, .int .i64 (B 0), .int .i64 (B 1), .int .i64 (B 2), .int .i64 (B 3), .int .i64 (B 4), .int .i64 (B 5), .int .i64 p, .int .i64 a, .bool c, .int .i64 l]
def eq12 (M N : Nat → Int) : Bool := (M 0 == N 0) && (M 1 == N 1) && (M 2 == N 2) && (M 3 == N 3) && (M 4 == N 4) && (M 5 == N 5) && (M 6 == N 6) && (M 7 == N 7) && (M 8 == N 8) && (M 9 == N 9) && (M 10 == N 10) && (M 11 == N 11)
def eq6 (B C : Nat → Int) : Bool := ((B 0 == C 0) && (B 1 == C 1) && (B 2 == C 2)) && ((B 3 == C 3) && (B 4 == C 4) && (B 5 == C 5))
def zI : Nat → Int := fun _ => 0
def zkB (M : Nat → Int) (m : Int) (B : Nat → Int) (p a : Int) (c : Bool) (l : Int) (k : Nat) : Bool :=
  if k = 0 then eq12 zI M else if k = 1 then (0 == m) && eq6 zI B else if k = 2 then (0 == p) && (0 == a) && (false == c) else if k = 3 then (0 == l) else true
def kindB (h : Int) (M : Nat → Int) (m : Int) (B : Nat → Int) (p a : Int) (c : Bool) (l : Int) (k : Nat) : Bool := hasN h k || zkB M m B p a c l k
def kindsB (h : Int) (M : Nat → Int) (m : Int) (B : Nat → Int) (p a : Int) (c : Bool) (l : Int) : Bool := kindB h M m B p a c l 0 && kindB h M m B p a c l 1 && kindB h M m B p a c l 2 && kindB h M m B p a c l 3 && kindB h M m B p a c l 4
def restB (M : Nat → Int) (m : Int) (B : Nat → Int) (p a : Int) (l : Int) : Bool := okM M && inB m 255 && okBox B && inB p 63 && inB a 255 && inB l 255
def rightP (h : Int) (M : Nat → Int) (m : Int) (B : Nat → Int) (p a : Int) (c : Bool) (l : Int) : Bool := decide (0 ≤ h) && decide (h ≤ 31) && kindsB h M m B p a c l && restB M m B p a l
end Go.Proofs.Ytjcibffhlhdjeaa
