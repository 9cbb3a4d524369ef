/-
  2 texts in one file, each with its own heading.
-/
import Derived.Test.YtffbehcbokmpkaaRows
import Derived.Test.YtffbehcbokmpkaaML24
import Derived.Test.YtffbehcbokmpkaaML10
import Derived.Test.YtffbehcbokmpkaaML04
import Derived.WalkKit
import Derived.ProofKit
import Derived.OpenShut
import Derived.ShutString
import Derived.ChangeOld
import Derived.Below
import Derived.Deep.Slices
import Derived.Laws.IdiomArrays
/-
  Records, parts and states that came in, opened.
-/
namespace Go.Proofs.Ytffbehcbokmpkaa
open Go.ChangeShapes Go.WideShapes Go.ChangeAt Go.RowKit Go.Deep
set_option linter.unusedVariables false

theorem rg_wf12 {x : Int} (h : (Lit.int .i64 x).wf = true) : Rg x := by
  have h2 : (decide (IntKind.i64.min ≤ x) && decide (x ≤ IntKind.i64.max)) = true := h
  rw [Bool.and_eq_true, decide_eq_true_eq, decide_eq_true_eq] at h2
  exact h2
instance : Inhabited Rc := ⟨zRc⟩
section
variable {H : Type} {enc : TypeId × Value → H} {w : World} {base : Nat} {spare : Nat → Bool} {held : Bool}
theorem rc_of_cells {cs : List Value} {i m p a l : Int} {c : Bool} {B : Nat → Int} (hl : cs.length = 12) (h0 : cs[0]? = some (.int .i64 i)) (h1 : cs[1]? = some (.int .i64 m)) (h2 : cs[2]? = some (.int .i64 p)) (h3 : cs[3]? = some (.int .i64 a)) (h4 : cs[4]? = some (.bool c)) (h5 : cs[5]? = some (.int .i64 l)) (hB : ∀ i, i < 6 → cs[6 + i]? = some (.int .i64 (B i))) : cs = cRc ⟨i, m, p, a, c, l, B 0, B 1, B 2, B 3, B 4, B 5⟩ := by
  match cs, hl with
  | [c0, c1, c2, c3, c4, c5, c6, c7, c8, c9, c10, c11], _ =>
    have b0 := hB 0 (by omega)
    have b1 := hB 1 (by omega)
    have b2 := hB 2 (by omega)
    have b3 := hB 3 (by omega)
    have b4 := hB 4 (by omega)
    have b5 := hB 5 (by omega)
    simp at h0 h1 h2 h3 h4 h5 b0 b1 b2 b3 b4 b5
    rw [h0, h1, h2, h3, h4, h5, b0, b1, b2, b3, b4, b5]
    rfl
theorem rec_open {fuel : Nat} {cs : List Value} {x : DataW H × List MemPlace} (hl : cs.length = 12) (h : DataW.trod enc Try.prog w base spare held fuel 36 cs = some x) : ∃ r : Rc, cs = cRc r ∧ Rg r.id := by
  obtain ⟨xs, n, _, _, _, hxl, hx⟩ := DataW.trod_struct Try.underlying36 h
  have hxl2 : xs.length = 7 := hxl
  have hc0 : Try.prog.cellsOf 22 = 1 := by kernel_rfl
  have f0 : DataW.trod enc Try.prog w base spare held n 22 ((cs.drop 0).take 1) = some (xs[0]'(by omega)) := by
    have := (hx 0 _ rfl).trans (List.getElem?_eq_getElem (show 0 < xs.length by omega))
    exact (congrArg (fun c => DataW.trod enc Try.prog w base spare held n 22 ((cs.drop 0).take c)) hc0.symm).trans this
  have hc1 : Try.prog.cellsOf 3 = 1 := by kernel_rfl
  have f1 : DataW.trod enc Try.prog w base spare held n 3 ((cs.drop 1).take 1) = some (xs[1]'(by omega)) := by
    have := (hx 1 _ rfl).trans (List.getElem?_eq_getElem (show 1 < xs.length by omega))
    exact (congrArg (fun c => DataW.trod enc Try.prog w base spare held n 3 ((cs.drop 1).take c)) hc1.symm).trans this
  have hc2 : Try.prog.cellsOf 3 = 1 := by kernel_rfl
  have f2 : DataW.trod enc Try.prog w base spare held n 3 ((cs.drop 2).take 1) = some (xs[2]'(by omega)) := by
    have := (hx 2 _ rfl).trans (List.getElem?_eq_getElem (show 2 < xs.length by omega))
    exact (congrArg (fun c => DataW.trod enc Try.prog w base spare held n 3 ((cs.drop 2).take c)) hc2.symm).trans this
  have hc3 : Try.prog.cellsOf 3 = 1 := by kernel_rfl
  have f3 : DataW.trod enc Try.prog w base spare held n 3 ((cs.drop 3).take 1) = some (xs[3]'(by omega)) := by
    have := (hx 3 _ rfl).trans (List.getElem?_eq_getElem (show 3 < xs.length by omega))
    exact (congrArg (fun c => DataW.trod enc Try.prog w base spare held n 3 ((cs.drop 3).take c)) hc3.symm).trans this
  have hc4 : Try.prog.cellsOf 4 = 1 := by kernel_rfl
  have f4 : DataW.trod enc Try.prog w base spare held n 4 ((cs.drop 4).take 1) = some (xs[4]'(by omega)) := by
    have := (hx 4 _ rfl).trans (List.getElem?_eq_getElem (show 4 < xs.length by omega))
    exact (congrArg (fun c => DataW.trod enc Try.prog w base spare held n 4 ((cs.drop 4).take c)) hc4.symm).trans this
  have hc5 : Try.prog.cellsOf 3 = 1 := by kernel_rfl
  have f5 : DataW.trod enc Try.prog w base spare held n 3 ((cs.drop 5).take 1) = some (xs[5]'(by omega)) := by
    have := (hx 5 _ rfl).trans (List.getElem?_eq_getElem (show 5 < xs.length by omega))
    exact (congrArg (fun c => DataW.trod enc Try.prog w base spare held n 3 ((cs.drop 5).take c)) hc5.symm).trans this
  have hc6 : Try.prog.cellsOf 30 = 6 := by kernel_rfl
  have f6 : DataW.trod enc Try.prog w base spare held n 30 ((cs.drop 6).take 6) = some (xs[6]'(by omega)) := by
    have := (hx 6 _ rfl).trans (List.getElem?_eq_getElem (show 6 < xs.length by omega))
    exact (congrArg (fun c => DataW.trod enc Try.prog w base spare held n 30 ((cs.drop 6).take c)) hc6.symm).trans this
  obtain ⟨v0, e0, _, w0⟩ := DataW.trod_int Try.underlying22 f0
  obtain ⟨v1, e1, _, _⟩ := DataW.trod_int Try.underlying3 f1
  obtain ⟨v2, e2, _, _⟩ := DataW.trod_int Try.underlying3 f2
  obtain ⟨v3, e3, _, _⟩ := DataW.trod_int Try.underlying3 f3
  obtain ⟨v4, e4, _⟩ := DataW.trod_bool Try.underlying4 f4
  obtain ⟨v5, e5, _, _⟩ := DataW.trod_int Try.underlying3 f5
  obtain ⟨B, hB⟩ := box_nums f6
  exact ⟨_, rc_of_cells hl (piece1 e0) (piece1 e1) (piece1 e2) (piece1 e3) (piece1 e4) (piece1 e5) (fun i hi => nums_piece hB hi), rg_wf12 w0⟩
theorem open_recs {fuel : Nat} {cs : List Value} {x : DataW H × List MemPlace} (h : DataW.trod enc Try.prog w base (fun _ => true) held fuel 46 cs = some x) : ∃ a len cap X, cs = [.slice a len cap] ∧ RcRow w a len X ∧ len ≤ cap ∧ cap ≤ maxLen ∧ (∀ r ∈ X, Rg r.id) ∧ (len = 0 ∨ ∃ es sp, x.1 = .slice es sp ∧ es.length = len) := by
  rcases open_slice Try.underlying46 h with ⟨hcs, _⟩ | ⟨ad, len, c, m, n, D, Pl, hcs, _, hlc, hm, hmm, hxx, hi⟩
  · exact ⟨none, 0, 0, [], hcs, ⟨rfl, by omega, .inl rfl⟩, Nat.le_refl _, by unfold maxLen; omega, (fun x hx => by cases hx), Or.inl rfl⟩
  · have hcm := hm
    unfold maxLen at hm
    have hC : Try.prog.cellsOf 36 = 12 := by kernel_rfl
    rw [hC] at hi
    simp only [if_true] at hmm
    subst hmm
    obtain ⟨V, hV⟩ := choose_lt (α := Rc) (n := len) (p := fun i x => (∀ j v, (cRc x)[j]? = some v → w.cell? ((ad.add (i * 12)).add j) = some v) ∧ Rg x.id) (fun i hil => by
      obtain ⟨cs', hc, ht⟩ := hi i (by omega)
      obtain ⟨_, hlen, hat⟩ := World.cells?_some hc
      obtain ⟨x, hx, hb⟩ := rec_open hlen ht
      refine ⟨x, fun j v hv => ?_, hb⟩
      have hj : j < 12 := by have := (List.getElem?_eq_some_iff.1 hv).1; rw [cRc_len] at this; exact this
      rw [hat j hj, hx]
      exact hv)
    refine ⟨some ad, len, _, (List.range len).map V, hcs, ⟨by simp, by omega, ?_⟩, hlc, hcm, fun x hx => ?_, Or.inr ⟨_, _, by rw [hxx], by simp⟩⟩
    · by_cases h0 : len = 0
      · exact .inl h0
      · obtain ⟨b, off, spot⟩ := ad
        have c0 := (hV 0 (by omega)).1 0 _ rfl
        have hspot : spot = none := by simpa [Addr.add] using World.cell?_spot c0
        subst hspot
        have hb : b < w.heap.size := by
          have := World.block_lt_of_cell? _ _ c0
          simpa [add_plain] using this
        refine .inr ⟨b, off, rfl, hb, fun i x hx => ?_⟩
        have hil : i < len := by have := (List.getElem?_eq_some_iff.1 hx).1; simpa using this
        have e : V i = x := by
          rw [List.getElem?_map, List.getElem?_range hil] at hx
          simpa using hx
        rw [← e]
        intro j v hv
        have := (hV i hil).1 j v hv
        simpa only [add_plain] using this
    · obtain ⟨i, hi2, e⟩ := List.mem_map.1 hx
      rw [← e]
      exact (hV i (List.mem_range.1 hi2)).2
theorem open_ids12 {fuel : Nat} {cs : List Value} {x : DataW H × List MemPlace} (h : DataW.trod enc Try.prog w base (fun _ => true) held fuel 48 cs = some x) : ∃ a len cap zs, cs = [.slice a len cap] ∧ Row w a len zs ∧ Rgs zs := by
  rcases open_ints Try.underlying48 Try.underlying22 (by kernel_rfl) h with ⟨hcs, _⟩ | ⟨ad, l, c, zs, hcs, _, hl, hm, hz, _, hcell, hwz⟩
  · exact ⟨none, 0, 0, [], hcs, ⟨rfl, by omega, .inl rfl⟩, fun x hx => by cases hx⟩
  · unfold maxLen at hm
    simp only [if_true] at hz
    refine ⟨some ad, l, c, zs.take l, hcs, ⟨by rw [List.length_take]; omega, by omega, ?_⟩, fun x hx => rg_wf12 (hwz x (List.mem_of_mem_take hx))⟩
    by_cases h0 : l = 0
    · exact .inl h0
    · obtain ⟨b, off, spot⟩ := ad
      have hspot : spot = none := by simpa [Addr.add] using World.cell?_spot (hcell 0 (by omega))
      subst hspot
      refine .inr ⟨b, off, rfl, fun i hi => ?_⟩
      have := hcell i (by omega)
      rw [Addr.add_mid] at this
      rw [this]
      simp [hi]
end
end Go.Proofs.Ytffbehcbokmpkaa
namespace Go.Proofs.Ytffbehcbokmpkaa
open Go.RowKit

theorem rise_rem {A : List Rc} (h : Rise A) (zs : List Int) : Rise (remL A zs) := List.Pairwise.sublist List.filter_sublist h
theorem look_rem (A : List Rc) (zs : List Int) (k : Int) : look k (remL A zs) = if k ∈ zs then none else look k A := by
  unfold look remL
  rw [List.find?_filter]
  by_cases h : k ∈ zs
  · rw [if_pos h, List.find?_eq_none]
    intro x hx
    by_cases e : x.id = k
    · rw [e]; simp [h]
    · simp [e]
  · rw [if_neg h]
    refine congrArg (fun f => List.find? f A) (funext fun r => ?_)
    by_cases e : r.id = k
    · rw [e]; simp [h]
    · simp [e]
theorem look_rev_none {X : List Rc} {k : Int} (h : k ∉ X.map Rc.id) : look k X.reverse = none :=
  look_none fun x hx e => h (List.mem_map.2 ⟨x, List.mem_reverse.1 hx, e⟩)
theorem rem_ins {L X R : List Rc} (hL : Rise L) (hR : Rise R) (hk : ∀ k, look k R = (look k X.reverse).or (look k L)) : remL R (X.map Rc.id) = remL L (X.map Rc.id) := by
  refine rise_ext (rise_rem hR _) (rise_rem hL _) fun k => ?_
  rw [look_rem, look_rem]
  by_cases h : k ∈ X.map Rc.id
  · rw [if_pos h, if_pos h]
  · rw [if_neg h, if_neg h, hk k, look_rev_none h, Option.none_or]
theorem ins_rg {L X R : List Rc} (hk : ∀ k, look k R = (look k X.reverse).or (look k L)) (hL : ∀ r ∈ L, Rg r.id) (hX : ∀ r ∈ X, Rg r.id) : ∀ r ∈ R, Rg r.id := fun r hr => by
  obtain ⟨y, hy⟩ := look_some hr rfl
  have e := hk r.id
  rw [hy] at e
  cases h1 : look r.id X.reverse with
  | some z =>
    obtain ⟨m1, m2⟩ := look_mem h1
    rw [← m2]
    exact hX z (List.mem_reverse.1 m1)
  | none =>
    rw [h1, Option.none_or] at e
    obtain ⟨m1, m2⟩ := look_mem e.symm
    rw [← m2]
    exact hL y m1
def cId (x : Int) : List Value := [.int .i64 x]
theorem cId_len (x : Int) : (cId x).length = 1 := rfl
theorem cId_one (x : Int) : ∀ u ∈ cId x, u.oneCell' = true := fun u hu => by
  rw [List.mem_singleton.1 hu]; rfl
theorem zId_info : (Try.prog.info? 22).map (fun i => (i.zero, i.size, i.bytes)) = some (some (.int .i64 0), 1, 8) := by kernel_rfl
theorem ids_row {w : World} {base : Nat} {v : Value} {zs : List Int} (h : OwnX 1 cId 22 w base v zs) : ∃ a cap, v = .slice a zs.length cap ∧ zs.length ≤ cap ∧ cap ≤ maxLen ∧ Row w a zs.length zs := by
  obtain ⟨a, cap, hv, h1, h2, hr⟩ := h.row cId_len
  refine ⟨a, cap, hv, h1, h2, rfl, hr.2.1, hr.2.2.imp id fun ⟨b, off, e, _, hc⟩ => ⟨b, off, e, fun i hi => ?_⟩⟩
  have := hc i (zs.getD i 0) (by rw [List.getElem?_eq_getElem hi, List.getD, List.getElem?_eq_getElem hi]; rfl) 0 _ rfl
  rw [Nat.mul_one, Nat.add_zero] at this
  exact this
theorem run_bsId (x : Int) (W : World) : (Instr.buildSlice 48 1 #[(0, .int .i64 x)]).run Try.prog W = .ok (.slice (some ⟨W.heap.size, 0, none⟩) 1 1) (W.alloc (.cells #[.int .i64 x] 22)) := by kernel_rfl
end Go.Proofs.Ytffbehcbokmpkaa
