/-
  Arguments that are boxes and planes, opened to their numbers.
-/
import Derived.Test.YthdgldoailjhhaaShpF
import Derived.Test.YthdgldoailjhhaaAffN
namespace Go.Proofs.Ythdgldoailjhhaa
open Go.ChangeShapes Go.WideShapes Go.ChangeAt Go.RowKit Go.Deep

/-- n cells that are numbers -/
def Nums (cs : List Value) (n : Nat) (M : Nat → Int) : Prop := ∀ i, i < n → cs[i]? = some (.int .i64 (M i))
theorem nums_piece {cs : List Value} {o n : Nat} {M : Nat → Int} (h : Nums ((cs.drop o).take n) n M) {i : Nat} (hi : i < n) : cs[o + i]? = some (.int .i64 (M i)) := by
  have := h i hi
  rw [List.getElem?_take, if_pos hi, List.getElem?_drop] at this
  exact this
theorem nums_join {cs : List Value} {n m : Nat} {M N : Nat → Int} (h : Nums ((cs.drop 0).take n) n M) (k : Nums ((cs.drop n).take m) m N) : Nums cs (n + m) (fun i => if i < n then M i else N (i - n)) := fun i hi => by
  show cs[i]? = some (.int .i64 (if i < n then M i else N (i - n)))
  by_cases c : i < n
  · rw [if_pos c]
    have := nums_piece h c
    rwa [Nat.zero_add] at this
  · rw [if_neg c]
    have := nums_piece k (i := i - n) (by omega)
    rwa [show n + (i - n) = i by omega] at this
theorem nums4 {cs : List Value} {M : Nat → Int} (hl : cs.length = 4) (h : Nums cs 4 M) : cs = [.int .i64 (M 0), .int .i64 (M 1), .int .i64 (M 2), .int .i64 (M 3)] := by
  match cs, hl with
  | [c0, c1, c2, c3], _ =>
    have h0 := h 0 (by omega)
    have h1 := h 1 (by omega)
    have h2 := h 2 (by omega)
    have h3 := h 3 (by omega)
    simp at h0 h1 h2 h3
    rw [h0, h1, h2, h3]
theorem nums8 {cs : List Value} {M : Nat → Int} (hl : cs.length = 8) (h : Nums cs 8 M) : cs = [.int .i64 (M 0), .int .i64 (M 1), .int .i64 (M 2), .int .i64 (M 3), .int .i64 (M 4), .int .i64 (M 5), .int .i64 (M 6), .int .i64 (M 7)] := by
  match cs, hl with
  | [c0, c1, c2, c3, c4, c5, c6, c7], _ =>
    have h0 := h 0 (by omega)
    have h1 := h 1 (by omega)
    have h2 := h 2 (by omega)
    have h3 := h 3 (by omega)
    have h4 := h 4 (by omega)
    have h5 := h 5 (by omega)
    have h6 := h 6 (by omega)
    have h7 := h 7 (by omega)
    simp at h0 h1 h2 h3 h4 h5 h6 h7
    rw [h0, h1, h2, h3, h4, h5, h6, h7]

section
variable {H : Type} {enc : TypeId × Value → H} {w : World} {base : Nat} {spare : Nat → Bool} {held : Bool}

theorem vec_nums {fuel : Nat} {cs : List Value} {x : DataW H × List MemPlace} (h : DataW.trod enc Try.prog w base spare held fuel 27 cs = some x) : ∃ M, Nums cs 3 M := by
  obtain ⟨M, hM⟩ := open_nums Try.underlying27 Try.underlying23 (by kernel_rfl) h
  exact ⟨M, fun i hi => (hM i hi).1⟩
theorem box_nums {fuel : Nat} {cs : List Value} {x : DataW H × List MemPlace} (h : DataW.trod enc Try.prog w base spare held fuel 33 cs = some x) : ∃ M, Nums cs 6 M := by
  obtain ⟨xs, n, _, _, _, hxl, hx⟩ := DataW.trod_struct Try.underlying33 h
  have hxl2 : xs.length = 2 := hxl
  have hC : Try.prog.cellsOf 27 = 3 := by kernel_rfl
  have h0 : DataW.trod enc Try.prog w base spare held n 27 ((cs.drop 0).take 3) = some (xs[0]'(by omega)) := by
    rw [← hC]; exact (hx 0 _ rfl).trans (List.getElem?_eq_getElem (by omega))
  have h1 : DataW.trod enc Try.prog w base spare held n 27 ((cs.drop 3).take 3) = some (xs[1]'(by omega)) := by
    have := (hx 1 _ rfl).trans (List.getElem?_eq_getElem (show 1 < xs.length by omega))
    exact (congrArg (fun c => DataW.trod enc Try.prog w base spare held n 27 ((cs.drop 3).take c)) hC.symm).trans this
  obtain ⟨M, hM⟩ := vec_nums h0
  obtain ⟨N, hN⟩ := vec_nums h1
  exact ⟨_, nums_join hM hN⟩
theorem plane_nums {fuel : Nat} {cs : List Value} {x : DataW H × List MemPlace} (h : DataW.trod enc Try.prog w base spare held fuel 29 cs = some x) : ∃ M, Nums cs 4 M := by
  obtain ⟨xs, n, _, _, _, hxl, hx⟩ := DataW.trod_struct Try.underlying29 h
  have hxl2 : xs.length = 2 := hxl
  have hC : Try.prog.cellsOf 27 = 3 := by kernel_rfl
  have hD : Try.prog.cellsOf 23 = 1 := by kernel_rfl
  have h0 : DataW.trod enc Try.prog w base spare held n 27 ((cs.drop 0).take 3) = some (xs[0]'(by omega)) := by
    rw [← hC]; exact (hx 0 _ rfl).trans (List.getElem?_eq_getElem (by omega))
  have h1 : DataW.trod enc Try.prog w base spare held n 23 ((cs.drop 3).take 1) = some (xs[1]'(by omega)) := by
    have := (hx 1 _ rfl).trans (List.getElem?_eq_getElem (show 1 < xs.length by omega))
    exact (congrArg (fun c => DataW.trod enc Try.prog w base spare held n 23 ((cs.drop 3).take c)) hD.symm).trans this
  obtain ⟨M, hM⟩ := vec_nums h0
  obtain ⟨v, ev, _, _⟩ := DataW.trod_int Try.underlying23 h1
  refine ⟨_, nums_join (m := 1) (N := fun _ => v) hM (fun i hi => ?_)⟩
  obtain rfl : i = 0 := by omega
  rw [ev]
  rfl
theorem two_nums {t e : TypeId} {c fuel : Nat} {cs : List Value} {x : DataW H × List MemPlace} (ht : Try.prog.underlying t = some (.array 2 e)) (hc : Try.prog.cellsOf e = c) (he : ∀ fuel cs (x : DataW H × List MemPlace), DataW.trod enc Try.prog w base spare held fuel e cs = some x → ∃ M, Nums cs c M)
    (h : DataW.trod enc Try.prog w base spare held fuel t cs = some x) : ∃ M, Nums cs (c + c) M := by
  obtain ⟨xs, n, _, _, _, hxl, hx⟩ := DataW.trod_array ht h
  rw [hc] at hx
  have h0 := (hx 0 (by omega)).trans (List.getElem?_eq_getElem (show 0 < xs.length by omega))
  have h1 := (hx 1 (by omega)).trans (List.getElem?_eq_getElem (show 1 < xs.length by omega))
  rw [Nat.zero_mul] at h0
  rw [Nat.one_mul] at h1
  obtain ⟨M, hM⟩ := he _ _ _ h0
  obtain ⟨N, hN⟩ := he _ _ _ h1
  exact ⟨_, nums_join hM hN⟩

theorem open_plane {r : Reach} {b0 : Nat} {v : Value} {d : DataW H} {p : List MemPlace} (hv : Value.okWide Try.prog w r b0 29 v) (h : DataW.Trod enc Try.prog w base spare held 29 v d p) : ∃ P : Nat → Int, v = .agg #[.int .i64 (P 0), .int .i64 (P 1), .int .i64 (P 2), .int .i64 (P 3)] := by
  obtain ⟨cs, rfl, hs⟩ := okWide_struct Try.underlying29 hv
  rw [show Try.prog.cellsOf 29 = 4 by kernel_rfl] at hs
  obtain ⟨fuel, hf⟩ := h
  obtain ⟨M, hM⟩ := plane_nums hf
  obtain ⟨l⟩ := cs
  have e := nums4 (cs := l) (M := M) (by simpa using hs) (fun i hi => by simpa [Value.cells] using hM i hi)
  exact ⟨M, by rw [e]⟩
/-- an array of two boxes -/
theorem open_boxes2 {r : Reach} {b0 : Nat} {v : Value} {d : DataW H} {p : List MemPlace} (hv : Value.okWide Try.prog w r b0 48 v) (h : DataW.Trod enc Try.prog w base spare held 48 v d p) : ∃ M : Nat → Int, v = .agg #[.int .i64 (M 0), .int .i64 (M 1), .int .i64 (M 2), .int .i64 (M 3), .int .i64 (M 4), .int .i64 (M 5), .int .i64 (M 6), .int .i64 (M 7), .int .i64 (M 8), .int .i64 (M 9), .int .i64 (M 10), .int .i64 (M 11)] := by
  obtain ⟨cs, rfl, hs⟩ := okWide_arr Try.underlying48 hv
  rw [show Try.prog.cellsOf 48 = 12 by kernel_rfl] at hs
  obtain ⟨fuel, hf⟩ := h
  obtain ⟨M, hM⟩ := two_nums Try.underlying48 (by kernel_rfl) (fun _ _ _ h => box_nums h) hf
  obtain ⟨l⟩ := cs
  have e := list12 (M := M) (k := .i64) (cs := l) (by simpa using hs) (fun i hi => by simpa [Value.cells] using hM i hi)
  exact ⟨M, by rw [e]⟩
/-- an array of two planes -/
theorem open_planes2 {r : Reach} {b0 : Nat} {v : Value} {d : DataW H} {p : List MemPlace} (hv : Value.okWide Try.prog w r b0 49 v) (h : DataW.Trod enc Try.prog w base spare held 49 v d p) : ∃ M : Nat → Int, v = .agg #[.int .i64 (M 0), .int .i64 (M 1), .int .i64 (M 2), .int .i64 (M 3), .int .i64 (M 4), .int .i64 (M 5), .int .i64 (M 6), .int .i64 (M 7)] := by
  obtain ⟨cs, rfl, hs⟩ := okWide_arr Try.underlying49 hv
  rw [show Try.prog.cellsOf 49 = 8 by kernel_rfl] at hs
  obtain ⟨fuel, hf⟩ := h
  obtain ⟨M, hM⟩ := two_nums Try.underlying49 (by kernel_rfl) (fun _ _ _ h => plane_nums h) hf
  obtain ⟨l⟩ := cs
  have e := nums8 (cs := l) (M := M) (by simpa using hs) (fun i hi => by simpa [Value.cells] using hM i hi)
  exact ⟨M, by rw [e]⟩
/-- a slice of boxes that came in -/
theorem open_boxes {fuel : Nat} {a : Option Addr} {len cap : Nat} {x : DataW H × List MemPlace} (h : DataW.trod enc Try.prog w base (fun _ => true) held fuel 22 [.slice a len cap] = some x) :
    ∃ Bs, BRow w a len Bs ∧ len ≤ cap ∧ cap ≤ 9223372036854775807 := by
  rcases open_slice Try.underlying22 h with ⟨hcs, _⟩ | ⟨ad, l, c, m, n, D, Pl, hcs, _, hlc, hm, hmm, _, hi⟩
  · simp at hcs
    obtain ⟨rfl, rfl, rfl⟩ := hcs
    exact ⟨[], ⟨rfl, by omega, .inl rfl⟩, by omega, by omega⟩
  · simp at hcs
    obtain ⟨rfl, rfl, rfl⟩ := hcs
    unfold maxLen at hm
    have hC : Try.prog.cellsOf 33 = 6 := by kernel_rfl
    rw [hC] at hi
    simp only [if_true] at hmm
    subst hmm
    obtain ⟨V, hV⟩ := choose_lt (α := Nat → Int) (n := len) (p := fun i M => ∀ j, j < 6 → w.cell? ((ad.add (i * 6)).add j) = some (.int .i64 (M j))) (fun i hil => by
      obtain ⟨cs', hc, ht⟩ := hi i (by omega)
      obtain ⟨_, hlen, hat⟩ := World.cells?_some hc
      obtain ⟨M, hM⟩ := box_nums ht
      exact ⟨M, fun j hj => by rw [hat j (by omega)]; exact hM j hj⟩)
    refine ⟨(List.range len).map V, ⟨by simp, by omega, ?_⟩, hlc, by omega⟩
    by_cases h0 : len = 0
    · exact .inl h0
    · obtain ⟨b, off, spot⟩ := ad
      have hspot : spot = none := by simpa [Addr.add] using World.cell?_spot (hV 0 (by omega) 0 (by omega))
      subst hspot
      refine .inr ⟨b, off, rfl, fun i hil j hj => ?_⟩
      have e : ((List.range len).map V).getD i zeroB = V i := by simp [List.getD, hil]
      rw [e]
      have := hV i hil j hj
      simpa only [add_plain] using this
end
end Go.Proofs.Ythdgldoailjhhaa
