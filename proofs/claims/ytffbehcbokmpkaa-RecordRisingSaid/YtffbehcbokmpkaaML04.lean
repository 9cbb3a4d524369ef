/-
  8 texts in one file, each with its own heading.
-/
import Derived.Test.YtffbehcbokmpkaaML03
import Derived.WalkKit
import Derived.ProofKit
import Derived.OpenShut
import Derived.Deep.Slices
import Derived.Laws.IdiomArrays
/-
  Inside, as plain arithmetic: what lies between two numbers, its product lies between theirs; so with sums, with boxes carried, spans and joins.
-/
namespace Go.Proofs.Ytffbehcbokmpkaa
open Go.RowKit

theorem boxTo_parts {B : Nat → Int} (h : okBox B = true) : rightV [(B 0, B 1, B 2), (B 3, B 4, B 5)] = true ∧ B 0 ≤ B 3 ∧ B 1 ≤ B 4 ∧ B 2 ≤ B 5 := by
  unfold okBox boxTo boxTo boxTo boxTo at h
  have h4 : ((rightV [(B 0, B 1, B 2), (B 3, B 4, B 5)] = true ∧ B 0 ≤ B (3 + 0)) ∧ B 1 ≤ B (3 + 1)) ∧ B 2 ≤ B (3 + 2) := by simpa using h
  exact ⟨h4.1.1.1, h4.1.1.2, h4.1.2, h4.2⟩
theorem okBox_at {B : Nat → Int} (h : okBox B = true) {k : Nat} (hk : k < 6) : okB (B k) = true := by
  have hr := (boxTo_parts h).1
  rw [rightV2] at hr
  obtain ⟨ha, hb⟩ := ok6_parts hr
  obtain ⟨a0, a1, a2⟩ := ok3_parts ha
  obtain ⟨b0, b1, b2⟩ := ok3_parts hb
  rcases lt6 hk with rfl | rfl | rfl | rfl | rfl | rfl
  · exact a0
  · exact a1
  · exact a2
  · exact b0
  · exact b1
  · exact b2
end Go.Proofs.Ytffbehcbokmpkaa
namespace Go.Proofs.Ytffbehcbokmpkaa
open Go.ChangeShapes Go.WideShapes Go.ChangeAt Go.RowKit Go.Deep

end Go.Proofs.Ytffbehcbokmpkaa
namespace Go.Proofs.Ytffbehcbokmpkaa
open Go.ChangeShapes Go.WideShapes Go.ChangeAt Go.RowKit Go.Deep

section
variable {H : Type} {enc : TypeId × Value → H} {w : World} {base : Nat} {spare : Nat → Bool} {held : Bool}

theorem take1_at {cs : List Value} {i : Nat} {v : Value} (h : (cs.drop i).take 1 = [v]) : cs[i]? = some v := by
  have e := congrArg (fun l => l[0]?) h
  simpa using e

theorem open_nums {t e : TypeId} {k : IntKind} {n fuel : Nat} {cs : List Value} {x : DataW H × List MemPlace} (ht : Try.prog.underlying t = some (.array n e)) (he : Try.prog.underlying e = some (.int k)) (hc : Try.prog.cellsOf e = 1)
    (h : DataW.trod enc Try.prog w base spare held fuel t cs = some x) : ∃ M : Nat → Int, ∀ i, i < n → cs[i]? = some (.int k (M i)) ∧ (Lit.int k (M i)).wf = true := by
  obtain ⟨xs, m, _, _, _, hxl, hx⟩ := DataW.trod_array ht h
  rw [hc] at hx
  refine choose_lt (α := Int) (n := n) (p := fun i v => cs[i]? = some (.int k v) ∧ (Lit.int k v).wf = true) (fun i hi => ?_)
  have e0 : xs[i]? = some (xs[i]'(by omega)) := List.getElem?_eq_getElem (by omega)
  obtain ⟨v, ev, _, wv⟩ := DataW.trod_int he ((hx i hi).trans e0)
  rw [Nat.mul_one] at ev
  exact ⟨v, take1_at ev, wv⟩

end
end Go.Proofs.Ytffbehcbokmpkaa
namespace Go.Proofs.Ytffbehcbokmpkaa
open Go.ChangeShapes Go.WideShapes Go.ChangeAt Go.RowKit Go.Deep

def Nums (cs : List Value) (n : Nat) (M : Nat → Int) : Prop := ∀ i, i < n → cs[i]? = some (.int .i64 (M i))
theorem nums_piece {cs : List Value} {o n : Nat} {M : Nat → Int} (h : Nums ((cs.drop o).take n) n M) {i : Nat} (hi : i < n) : cs[o + i]? = some (.int .i64 (M i)) := by
  have := h i hi
  rw [List.getElem?_take, if_pos hi, List.getElem?_drop] at this
  exact this
theorem nums_join {cs : List Value} {n m : Nat} {M N : Nat → Int} (h : Nums ((cs.drop 0).take n) n M) (k : Nums ((cs.drop n).take m) m N) : Nums cs (n + m) (fun i => if i < n then M i else N (i - n)) := fun i hi => by
  show cs[i]? = some (.int .i64 (if i < n then M i else N (i - n)))
  by_cases c : i < n
  · rw [if_pos c]
    have := nums_piece h c
    rwa [Nat.zero_add] at this
  · rw [if_neg c]
    have := nums_piece k (i := i - n) (by omega)
    rwa [show n + (i - n) = i by omega] at this
section
variable {H : Type} {enc : TypeId × Value → H} {w : World} {base : Nat} {spare : Nat → Bool} {held : Bool}

theorem vec_nums {fuel : Nat} {cs : List Value} {x : DataW H × List MemPlace} (h : DataW.trod enc Try.prog w base spare held fuel 28 cs = some x) : ∃ M, Nums cs 3 M := by
  obtain ⟨M, hM⟩ := open_nums Try.underlying28 Try.underlying24 (by kernel_rfl) h
  exact ⟨M, fun i hi => (hM i hi).1⟩
theorem box_nums {fuel : Nat} {cs : List Value} {x : DataW H × List MemPlace} (h : DataW.trod enc Try.prog w base spare held fuel 30 cs = some x) : ∃ M, Nums cs 6 M := by
  obtain ⟨xs, n, _, _, _, hxl, hx⟩ := DataW.trod_struct Try.underlying30 h
  have hxl2 : xs.length = 2 := hxl
  have hC : Try.prog.cellsOf 28 = 3 := by kernel_rfl
  have h0 : DataW.trod enc Try.prog w base spare held n 28 ((cs.drop 0).take 3) = some (xs[0]'(by omega)) := by
    rw [← hC]; exact (hx 0 _ rfl).trans (List.getElem?_eq_getElem (by omega))
  have h1 : DataW.trod enc Try.prog w base spare held n 28 ((cs.drop 3).take 3) = some (xs[1]'(by omega)) := by
    have := (hx 1 _ rfl).trans (List.getElem?_eq_getElem (show 1 < xs.length by omega))
    exact (congrArg (fun c => DataW.trod enc Try.prog w base spare held n 28 ((cs.drop 3).take c)) hC.symm).trans this
  obtain ⟨M, hM⟩ := vec_nums h0
  obtain ⟨N, hN⟩ := vec_nums h1
  exact ⟨_, nums_join hM hN⟩
end
end Go.Proofs.Ytffbehcbokmpkaa
namespace Go.Proofs.Ytffbehcbokmpkaa
open Go.RowKit

end Go.Proofs.Ytffbehcbokmpkaa
