/-
  Arguments that are vectors, opened to their numbers.
-/
import Derived.Test.YthdgldoailjhhaaVecN
import Derived.WalkKit
import Derived.ProofKit
import Derived.OpenShut
import Derived.Deep.Slices
import Derived.Laws.IdiomArrays
namespace Go.Proofs.Ythdgldoailjhhaa
open Go.ChangeShapes Go.WideShapes Go.ChangeAt Go.RowKit Go.Deep

section
variable {H : Type} {enc : TypeId × Value → H} {w : World} {base : Nat} {spare : Nat → Bool} {held : Bool}

/-- three cells that read as a vector are numbers -/
theorem open_vec {fuel : Nat} {cs : List Value} {x : DataW H × List MemPlace} (hl : cs.length = 3) (h : DataW.trod enc Try.prog w base spare held fuel 27 cs = some x) :
    ∃ a b c : Int, cs = [.int .i64 a, .int .i64 b, .int .i64 c] ∧ (Lit.int .i64 a).wf = true ∧ (Lit.int .i64 b).wf = true ∧ (Lit.int .i64 c).wf = true := by
  match cs, hl with
  | [c0, c1, c2], _ =>
    obtain ⟨y0, y1, y2, n, _, h0, h1, h2⟩ := trod_array3 Try.underlying27 (by kernel_rfl) h
    obtain ⟨a, ea, _, wa⟩ := DataW.trod_int Try.underlying23 h0
    obtain ⟨b, eb, _, wb⟩ := DataW.trod_int Try.underlying23 h1
    obtain ⟨c, ec, _, wc⟩ := DataW.trod_int Try.underlying23 h2
    simp at ea eb ec
    subst ea eb ec
    exact ⟨a, b, c, rfl, wa, wb, wc⟩

/-- a slice of vectors that came in -/
theorem open_vecs {fuel : Nat} {a : Option Addr} {len cap : Nat} {x : DataW H × List MemPlace} (h : DataW.trod enc Try.prog w base (fun _ => true) held fuel 55 [.slice a len cap] = some x) :
    ∃ vs, VRow w a len vs ∧ len ≤ cap ∧ cap ≤ 9223372036854775807 := by
  rcases open_slice Try.underlying55 h with ⟨hcs, _⟩ | ⟨ad, l, c, m, n, D, Pl, hcs, _, hlc, hm, hmm, _, hi⟩
  · simp at hcs
    obtain ⟨rfl, rfl, rfl⟩ := hcs
    exact ⟨[], ⟨rfl, by omega, .inl rfl⟩, by omega, by omega⟩
  · simp at hcs
    obtain ⟨rfl, rfl, rfl⟩ := hcs
    unfold maxLen at hm
    have hC : Try.prog.cellsOf 27 = 3 := by kernel_rfl
    rw [hC] at hi
    simp only [if_true] at hmm
    subst hmm
    obtain ⟨V, hV⟩ := choose_lt (α := V3) (n := len) (p := fun i v => w.cell? (ad.add (i * 3)) = some (.int .i64 v.1) ∧ w.cell? ((ad.add (i * 3)).add 1) = some (.int .i64 v.2.1) ∧ w.cell? ((ad.add (i * 3)).add 2) = some (.int .i64 v.2.2)) (fun i hil => by
      obtain ⟨cs', hc, ht⟩ := hi i (by omega)
      obtain ⟨_, hlen, hat⟩ := World.cells?_some hc
      obtain ⟨p, q, r, rfl, _, _, _⟩ := open_vec hlen ht
      exact ⟨(p, q, r), by simpa [Addr.add] using hat 0 (by omega), hat 1 (by omega), hat 2 (by omega)⟩)
    refine ⟨(List.range len).map V, ⟨by simp, by omega, ?_⟩, hlc, by omega⟩
    by_cases h0 : len = 0
    · exact .inl h0
    · obtain ⟨b, off, spot⟩ := ad
      have hspot : spot = none := by simpa [Addr.add] using World.cell?_spot (hV 0 (by omega)).1
      subst hspot
      refine .inr ⟨b, off, rfl, fun i hil => ?_⟩
      have e : ((List.range len).map V).getD i zeroV = V i := by simp [List.getD, hil]
      rw [e]
      have := hV i hil
      simpa only [add_plain] using this

theorem okWide_arr {P : Program} {r : Reach} {t e : TypeId} {k : Nat} {v : Value} (ht : P.underlying t = some (.array k e)) (h : Value.okWide P w r base t v) : ∃ cs, v = .agg cs ∧ cs.size = P.cellsOf t := by
  simp only [Value.okWide, ht] at h
  obtain ⟨cs, h1, h2, _⟩ := h
  exact ⟨cs, h1, h2⟩

end
end Go.Proofs.Ythdgldoailjhhaa
