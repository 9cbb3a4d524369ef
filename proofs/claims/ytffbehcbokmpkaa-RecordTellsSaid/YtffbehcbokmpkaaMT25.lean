/-
  Records, parts and states that came in, opened.
-/
import Derived.Test.YtffbehcbokmpkaaRows
import Derived.Test.YtffbehcbokmpkaaMT24
import Derived.Test.YtffbehcbokmpkaaMT10
import Derived.Test.YtffbehcbokmpkaaMT04
import Derived.WalkKit
import Derived.ProofKit
import Derived.OpenShut
import Derived.ShutString
import Derived.ChangeOld
import Derived.Below
import Derived.Deep.Slices
import Derived.Laws.IdiomArrays
namespace Go.Proofs.Ytffbehcbokmpkaa
open Go.ChangeShapes Go.WideShapes Go.ChangeAt Go.RowKit Go.Deep
set_option linter.unusedVariables false

instance : Inhabited Rc := ⟨zRc⟩
section
variable {H : Type} {enc : TypeId × Value → H} {w : World} {base : Nat} {spare : Nat → Bool} {held : Bool}
theorem state_of_cells {cs : List Value} {M : Nat → Int} {s : Bool} (hl : cs.length = 13) (hM : ∀ i, i < 12 → cs[0 + i]? = some (.int .i64 (M i))) (h12 : cs[12]? = some (.bool s)) : cs = lS M s := by
  match cs, hl with
  | [c0, c1, c2, c3, c4, c5, c6, c7, c8, c9, c10, c11, c12], _ =>
    have m0 := hM 0 (by omega)
    have m1 := hM 1 (by omega)
    have m2 := hM 2 (by omega)
    have m3 := hM 3 (by omega)
    have m4 := hM 4 (by omega)
    have m5 := hM 5 (by omega)
    have m6 := hM 6 (by omega)
    have m7 := hM 7 (by omega)
    have m8 := hM 8 (by omega)
    have m9 := hM 9 (by omega)
    have m10 := hM 10 (by omega)
    have m11 := hM 11 (by omega)
    simp at m0 m1 m2 m3 m4 m5 m6 m7 m8 m9 m10 m11 h12
    rw [m0, m1, m2, m3, m4, m5, m6, m7, m8, m9, m10, m11, h12]
    rfl
set_option maxRecDepth 100000 in
theorem open_state12 {r : Reach} {b0 : Nat} {v : Value} {d : DataW H} {p : List MemPlace} (hv : Value.okWide Try.prog w r b0 34 v) (h : DataW.Trod enc Try.prog w base spare held 34 v d p) : ∃ (M : Nat → Int) (s : Bool), v = .agg (lS M s).toArray := by
  obtain ⟨cs, rfl, hs⟩ := okWide_struct Try.underlying34 hv
  rw [show Try.prog.cellsOf 34 = 13 by kernel_rfl] at hs
  obtain ⟨fuel, hf⟩ := h
  obtain ⟨cs⟩ := cs
  obtain ⟨xs, n, _, _, _, hxl, hx⟩ := DataW.trod_struct Try.underlying34 hf
  have hxl2 : xs.length = 2 := hxl
  simp only [Value.cells] at hx
  have hc0 : Try.prog.cellsOf 26 = 12 := by kernel_rfl
  have f0 : DataW.trod enc Try.prog w base spare held n 26 ((cs.drop 0).take 12) = some (xs[0]'(by omega)) := by
    have := (hx 0 _ rfl).trans (List.getElem?_eq_getElem (show 0 < xs.length by omega))
    exact (congrArg (fun c => DataW.trod enc Try.prog w base spare held n 26 ((cs.drop 0).take c)) hc0.symm).trans this
  have hc1 : Try.prog.cellsOf 4 = 1 := by kernel_rfl
  have f1 : DataW.trod enc Try.prog w base spare held n 4 ((cs.drop 12).take 1) = some (xs[1]'(by omega)) := by
    have := (hx 1 _ rfl).trans (List.getElem?_eq_getElem (show 1 < xs.length by omega))
    exact (congrArg (fun c => DataW.trod enc Try.prog w base spare held n 4 ((cs.drop 12).take c)) hc1.symm).trans this
  obtain ⟨M, hM⟩ := open_nums Try.underlying26 Try.underlying24 (by kernel_rfl) f0
  obtain ⟨v1, e1, _⟩ := DataW.trod_bool Try.underlying4 f1
  exact ⟨M, v1, by rw [state_of_cells (by simpa using hs) (fun i hi => nums_piece (M := M) (fun i hi => (hM i hi).1) hi) (piece1 e1)]⟩
set_option maxRecDepth 100000 in
theorem open_parts12 {r : Reach} {b0 : Nat} {v : Value} {d : DataW H} {p : List MemPlace} (hv : Value.okWide Try.prog w r b0 32 v) (h : DataW.Trod enc Try.prog w base spare held 32 v d p) : ∃ P : PT, v = .agg (pl P).toArray := by
  obtain ⟨cs, rfl, hs⟩ := okWide_struct Try.underlying32 hv
  rw [show Try.prog.cellsOf 32 = 24 by kernel_rfl] at hs
  obtain ⟨fuel, hf⟩ := h
  obtain ⟨l⟩ := cs
  obtain ⟨P, hP⟩ := parts_open (by simpa using hs) (show DataW.trod enc Try.prog w base spare held fuel 32 l = some (d, p) from hf)
  exact ⟨P, by rw [hP]⟩
end
end Go.Proofs.Ytffbehcbokmpkaa
