/-
  Arguments of layer 6, opened: two parts, a slice of kinds.
-/
import Derived.Test.YtpobnmcjmclgbaaPrtQ
import Derived.Test.YtpobnmcjmclgbaaMShp
namespace Go.Proofs.Ytpobnmcjmclgbaa
open Go.ChangeShapes Go.WideShapes Go.ChangeAt Go.RowKit Go.Deep

section
variable {H : Type} {enc : TypeId × Value → H} {w : World} {base : Nat} {spare : Nat → Bool} {held : Bool}

theorem parts_cells {cs : List Value} {P : PT} (hl : cs.length = 24) (h0 : cs[0]? = some (.int .i64 P.1)) (hM : ∀ i, i < 12 → cs[1 + i]? = some (.int .i64 (P.2.1 i))) (h13 : cs[13]? = some (.int .i64 P.2.2.1)) (hB : ∀ i, i < 6 → cs[14 + i]? = some (.int .i64 (P.2.2.2.1 i)))
    (h20 : cs[20]? = some (.int .i64 P.2.2.2.2.1)) (h21 : cs[21]? = some (.int .i64 P.2.2.2.2.2.1)) (h22 : cs[22]? = some (.bool P.2.2.2.2.2.2.1)) (h23 : cs[23]? = some (.int .i64 P.2.2.2.2.2.2.2)) : cs = pl P := by
  match cs, hl with
  | [c0, c1, c2, c3, c4, c5, c6, c7, c8, c9, c10, c11, c12, c13, c14, c15, c16, c17, c18, c19, c20, c21, c22, c23], _ =>
    have m0 := hM 0 (by omega)
    have m1 := hM 1 (by omega)
    have m2 := hM 2 (by omega)
    have m3 := hM 3 (by omega)
    have m4 := hM 4 (by omega)
    have m5 := hM 5 (by omega)
    have m6 := hM 6 (by omega)
    have m7 := hM 7 (by omega)
    have m8 := hM 8 (by omega)
    have m9 := hM 9 (by omega)
    have m10 := hM 10 (by omega)
    have m11 := hM 11 (by omega)
    have b0 := hB 0 (by omega)
    have b1 := hB 1 (by omega)
    have b2 := hB 2 (by omega)
    have b3 := hB 3 (by omega)
    have b4 := hB 4 (by omega)
    have b5 := hB 5 (by omega)
    simp at h0 m0 m1 m2 m3 m4 m5 m6 m7 m8 m9 m10 m11 h13 b0 b1 b2 b3 b4 b5 h20 h21 h22 h23
    rw [h0, m0, m1, m2, m3, m4, m5, m6, m7, m8, m9, m10, m11, h13, b0, b1, b2, b3, b4, b5, h20, h21, h22, h23]
    rfl
theorem piece1 {cs : List Value} {o : Nat} {v : Value} (h : (cs.drop o).take 1 = [v]) : cs[o]? = some v := take1_at h
theorem parts_open {fuel : Nat} {cs : List Value} {x : DataW H × List MemPlace} (hl : cs.length = 24) (h : DataW.trod enc Try.prog w base spare held fuel 39 cs = some x) : ∃ P : PT, cs = pl P := by
  obtain ⟨xs, n, _, _, _, hxl, hx⟩ := DataW.trod_struct Try.underlying39 h
  have hxl2 : xs.length = 8 := hxl
  have hc0 : Try.prog.cellsOf 23 = 1 := by kernel_rfl
  have f0 : DataW.trod enc Try.prog w base spare held n 23 ((cs.drop 0).take 1) = some (xs[0]'(by omega)) := by
    have := (hx 0 _ rfl).trans (List.getElem?_eq_getElem (show 0 < xs.length by omega))
    exact (congrArg (fun c => DataW.trod enc Try.prog w base spare held n 23 ((cs.drop 0).take c)) hc0.symm).trans this
  have hc1 : Try.prog.cellsOf 33 = 12 := by kernel_rfl
  have f1 : DataW.trod enc Try.prog w base spare held n 33 ((cs.drop 1).take 12) = some (xs[1]'(by omega)) := by
    have := (hx 1 _ rfl).trans (List.getElem?_eq_getElem (show 1 < xs.length by omega))
    exact (congrArg (fun c => DataW.trod enc Try.prog w base spare held n 33 ((cs.drop 1).take c)) hc1.symm).trans this
  have hc2 : Try.prog.cellsOf 3 = 1 := by kernel_rfl
  have f2 : DataW.trod enc Try.prog w base spare held n 3 ((cs.drop 13).take 1) = some (xs[2]'(by omega)) := by
    have := (hx 2 _ rfl).trans (List.getElem?_eq_getElem (show 2 < xs.length by omega))
    exact (congrArg (fun c => DataW.trod enc Try.prog w base spare held n 3 ((cs.drop 13).take c)) hc2.symm).trans this
  have hc3 : Try.prog.cellsOf 37 = 6 := by kernel_rfl
  have f3 : DataW.trod enc Try.prog w base spare held n 37 ((cs.drop 14).take 6) = some (xs[3]'(by omega)) := by
    have := (hx 3 _ rfl).trans (List.getElem?_eq_getElem (show 3 < xs.length by omega))
    exact (congrArg (fun c => DataW.trod enc Try.prog w base spare held n 37 ((cs.drop 14).take c)) hc3.symm).trans this
  have hc4 : Try.prog.cellsOf 3 = 1 := by kernel_rfl
  have f4 : DataW.trod enc Try.prog w base spare held n 3 ((cs.drop 20).take 1) = some (xs[4]'(by omega)) := by
    have := (hx 4 _ rfl).trans (List.getElem?_eq_getElem (show 4 < xs.length by omega))
    exact (congrArg (fun c => DataW.trod enc Try.prog w base spare held n 3 ((cs.drop 20).take c)) hc4.symm).trans this
  have hc5 : Try.prog.cellsOf 3 = 1 := by kernel_rfl
  have f5 : DataW.trod enc Try.prog w base spare held n 3 ((cs.drop 21).take 1) = some (xs[5]'(by omega)) := by
    have := (hx 5 _ rfl).trans (List.getElem?_eq_getElem (show 5 < xs.length by omega))
    exact (congrArg (fun c => DataW.trod enc Try.prog w base spare held n 3 ((cs.drop 21).take c)) hc5.symm).trans this
  have hc6 : Try.prog.cellsOf 4 = 1 := by kernel_rfl
  have f6 : DataW.trod enc Try.prog w base spare held n 4 ((cs.drop 22).take 1) = some (xs[6]'(by omega)) := by
    have := (hx 6 _ rfl).trans (List.getElem?_eq_getElem (show 6 < xs.length by omega))
    exact (congrArg (fun c => DataW.trod enc Try.prog w base spare held n 4 ((cs.drop 22).take c)) hc6.symm).trans this
  have hc7 : Try.prog.cellsOf 3 = 1 := by kernel_rfl
  have f7 : DataW.trod enc Try.prog w base spare held n 3 ((cs.drop 23).take 1) = some (xs[7]'(by omega)) := by
    have := (hx 7 _ rfl).trans (List.getElem?_eq_getElem (show 7 < xs.length by omega))
    exact (congrArg (fun c => DataW.trod enc Try.prog w base spare held n 3 ((cs.drop 23).take c)) hc7.symm).trans this
  obtain ⟨v0, e0, _, _⟩ := DataW.trod_int Try.underlying23 f0
  obtain ⟨M, hM⟩ := open_nums Try.underlying33 Try.underlying31 (by kernel_rfl) f1
  obtain ⟨v2, e2, _, _⟩ := DataW.trod_int Try.underlying3 f2
  obtain ⟨B, hB⟩ := box_nums f3
  obtain ⟨v4, e4, _, _⟩ := DataW.trod_int Try.underlying3 f4
  obtain ⟨v5, e5, _, _⟩ := DataW.trod_int Try.underlying3 f5
  obtain ⟨v6, e6, _⟩ := DataW.trod_bool Try.underlying4 f6
  obtain ⟨v7, e7, _, _⟩ := DataW.trod_int Try.underlying3 f7
  exact ⟨(v0, M, v2, B, v4, v5, v6, v7), parts_cells hl (piece1 e0) (fun i hi => nums_piece (M := M) (fun i hi => (hM i hi).1) hi) (piece1 e2) (fun i hi => nums_piece hB hi) (piece1 e4) (piece1 e5) (piece1 e6) (piece1 e7)⟩
end
end Go.Proofs.Ytpobnmcjmclgbaa
