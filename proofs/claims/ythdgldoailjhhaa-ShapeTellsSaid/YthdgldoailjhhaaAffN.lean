/-
  Arguments that are matrices, opened to their numbers.
-/
import Derived.Test.YthdgldoailjhhaaAffM
import Derived.WalkKit
import Derived.ProofKit
import Derived.OpenShut
import Derived.Deep.Slices
import Derived.Laws.IdiomArrays
namespace Go.Proofs.Ythdgldoailjhhaa
open Go.ChangeShapes Go.WideShapes Go.ChangeAt Go.RowKit Go.Deep

section
variable {H : Type} {enc : TypeId × Value → H} {w : World} {base : Nat} {spare : Nat → Bool} {held : Bool}

theorem take1_at {cs : List Value} {i : Nat} {v : Value} (h : (cs.drop i).take 1 = [v]) : cs[i]? = some v := by
  have e := congrArg (fun l => l[0]?) h
  simpa using e

/-- cells that read as an array of numbers are numbers -/
theorem open_nums {t e : TypeId} {k : IntKind} {n fuel : Nat} {cs : List Value} {x : DataW H × List MemPlace} (ht : Try.prog.underlying t = some (.array n e)) (he : Try.prog.underlying e = some (.int k)) (hc : Try.prog.cellsOf e = 1)
    (h : DataW.trod enc Try.prog w base spare held fuel t cs = some x) : ∃ M : Nat → Int, ∀ i, i < n → cs[i]? = some (.int k (M i)) ∧ (Lit.int k (M i)).wf = true := by
  obtain ⟨xs, m, _, _, _, hxl, hx⟩ := DataW.trod_array ht h
  rw [hc] at hx
  refine choose_lt (α := Int) (n := n) (p := fun i v => cs[i]? = some (.int k v) ∧ (Lit.int k v).wf = true) (fun i hi => ?_)
  have e0 : xs[i]? = some (xs[i]'(by omega)) := List.getElem?_eq_getElem (by omega)
  obtain ⟨v, ev, _, wv⟩ := DataW.trod_int he ((hx i hi).trans e0)
  rw [Nat.mul_one] at ev
  exact ⟨v, take1_at ev, wv⟩

theorem list12 {cs : List Value} {M : Nat → Int} {k : IntKind} (hl : cs.length = 12) (h : ∀ i, i < 12 → cs[i]? = some (.int k (M i))) : cs = [.int k (M 0), .int k (M 1), .int k (M 2), .int k (M 3), .int k (M 4), .int k (M 5), .int k (M 6), .int k (M 7), .int k (M 8), .int k (M 9), .int k (M 10), .int k (M 11)] := by
  match cs, hl with
  | [c0, c1, c2, c3, c4, c5, c6, c7, c8, c9, c10, c11], _ =>
    have h0 := h 0 (by omega)
    have h1 := h 1 (by omega)
    have h2 := h 2 (by omega)
    have h3 := h 3 (by omega)
    have h4 := h 4 (by omega)
    have h5 := h 5 (by omega)
    have h6 := h 6 (by omega)
    have h7 := h 7 (by omega)
    have h8 := h 8 (by omega)
    have h9 := h 9 (by omega)
    have h10 := h 10 (by omega)
    have h11 := h 11 (by omega)
    simp at h0 h1 h2 h3 h4 h5 h6 h7 h8 h9 h10 h11
    rw [h0, h1, h2, h3, h4, h5, h6, h7, h8, h9, h10, h11]
theorem list3 {cs : List Value} {M : Nat → Int} {k : IntKind} (hl : cs.length = 3) (h : ∀ i, i < 3 → cs[i]? = some (.int k (M i))) : cs = [.int k (M 0), .int k (M 1), .int k (M 2)] := by
  match cs, hl with
  | [c0, c1, c2], _ =>
    have h0 := h 0 (by omega)
    have h1 := h 1 (by omega)
    have h2 := h 2 (by omega)
    simp at h0 h1 h2
    rw [h0, h1, h2]

theorem open_mat {r : Reach} {b0 : Nat} {v : Value} {d : DataW H} {p : List MemPlace} (hv : Value.okWide Try.prog w r b0 25 v) (h : DataW.Trod enc Try.prog w base spare held 25 v d p) : ∃ M : Nat → Int, v = .agg #[.int .i64 (M 0), .int .i64 (M 1), .int .i64 (M 2), .int .i64 (M 3), .int .i64 (M 4), .int .i64 (M 5), .int .i64 (M 6), .int .i64 (M 7), .int .i64 (M 8), .int .i64 (M 9), .int .i64 (M 10), .int .i64 (M 11)] := by
  obtain ⟨cs, rfl, hs⟩ := okWide_arr Try.underlying25 hv
  rw [show Try.prog.cellsOf 25 = 12 by kernel_rfl] at hs
  obtain ⟨fuel, hf⟩ := h
  obtain ⟨M, hM⟩ := open_nums Try.underlying25 Try.underlying23 (by kernel_rfl) hf
  obtain ⟨l⟩ := cs
  have hl : l.length = 12 := by simpa using hs
  have e := list12 (M := M) (k := .i64) hl (fun i hi => by simpa [Value.cells] using (hM i hi).1)
  exact ⟨M, by rw [e]⟩
theorem open_vec3 {r : Reach} {b0 : Nat} {v : Value} {d : DataW H} {p : List MemPlace} (hv : Value.okWide Try.prog w r b0 27 v) (h : DataW.Trod enc Try.prog w base spare held 27 v d p) : ∃ V : Nat → Int, v = .agg #[.int .i64 (V 0), .int .i64 (V 1), .int .i64 (V 2)] := by
  obtain ⟨cs, rfl, hs⟩ := okWide_arr Try.underlying27 hv
  rw [show Try.prog.cellsOf 27 = 3 by kernel_rfl] at hs
  obtain ⟨fuel, hf⟩ := h
  obtain ⟨M, hM⟩ := open_nums Try.underlying27 Try.underlying23 (by kernel_rfl) hf
  obtain ⟨l⟩ := cs
  have hl : l.length = 3 := by simpa using hs
  have e := list3 (M := M) (k := .i64) hl (fun i hi => by simpa [Value.cells] using (hM i hi).1)
  exact ⟨M, by rw [e]⟩

/-- a slice of matrices that came in -/
theorem open_mats {fuel : Nat} {a : Option Addr} {len cap : Nat} {x : DataW H × List MemPlace} (h : DataW.trod enc Try.prog w base (fun _ => true) held fuel 76 [.slice a len cap] = some x) :
    ∃ Ms, MRow w a len Ms ∧ len ≤ cap ∧ cap ≤ 9223372036854775807 := by
  rcases open_slice Try.underlying76 h with ⟨hcs, _⟩ | ⟨ad, l, c, m, n, D, Pl, hcs, _, hlc, hm, hmm, _, hi⟩
  · simp at hcs
    obtain ⟨rfl, rfl, rfl⟩ := hcs
    exact ⟨[], ⟨rfl, by omega, .inl rfl⟩, by omega, by omega⟩
  · simp at hcs
    obtain ⟨rfl, rfl, rfl⟩ := hcs
    unfold maxLen at hm
    have hC : Try.prog.cellsOf 25 = 12 := by kernel_rfl
    rw [hC] at hi
    simp only [if_true] at hmm
    subst hmm
    obtain ⟨V, hV⟩ := choose_lt (α := Nat → Int) (n := len) (p := fun i M => ∀ j, j < 12 → w.cell? ((ad.add (i * 12)).add j) = some (.int .i64 (M j))) (fun i hil => by
      obtain ⟨cs', hc, ht⟩ := hi i (by omega)
      obtain ⟨_, hlen, hat⟩ := World.cells?_some hc
      obtain ⟨M, hM⟩ := open_nums Try.underlying25 Try.underlying23 (by kernel_rfl) ht
      exact ⟨M, fun j hj => by rw [hat j (by omega)]; exact (hM j hj).1⟩)
    refine ⟨(List.range len).map V, ⟨by simp, by omega, ?_⟩, hlc, by omega⟩
    by_cases h0 : len = 0
    · exact .inl h0
    · obtain ⟨b, off, spot⟩ := ad
      have hspot : spot = none := by simpa [Addr.add] using World.cell?_spot (hV 0 (by omega) 0 (by omega))
      subst hspot
      refine .inr ⟨b, off, rfl, fun i hil j hj => ?_⟩
      have e : ((List.range len).map V).getD i zeroM = V i := by simp [List.getD, hil]
      rw [e]
      have := hV i hil j hj
      simpa only [add_plain] using this
end
end Go.Proofs.Ythdgldoailjhhaa
