/-
  5 texts in one file, each with its own heading.
-/
import Derived.Test.YtjcibffhlhdjeaaRows
import Derived.Test.YtjcibffhlhdjeaaMU12
import Derived.Test.YtjcibffhlhdjeaaMU07
import Derived.Test.YtjcibffhlhdjeaaMU04
import Derived.WalkKit
import Derived.ProofKit
import Derived.OpenShut
import Derived.ShutString
import Derived.ChangeOld
import Derived.Below
import Derived.Deep.Slices
import Derived.Laws.IdiomArrays
import Derived.Test.YtjcibffhlhdjeaaMU08
import Derived.Test.YtjcibffhlhdjeaaMU06
/-
  Records, parts and states that came in, opened.
-/
namespace Go.Proofs.Ytjcibffhlhdjeaa
open Go.ChangeShapes Go.WideShapes Go.ChangeAt Go.RowKit Go.Deep
set_option linter.unusedVariables false

theorem rg_wf12 {x : Int} (h : (Lit.int .i64 x).wf = true) : Rg x := by
  have h2 : (decide (IntKind.i64.min ≤ x) && decide (x ≤ IntKind.i64.max)) = true := h
  rw [Bool.and_eq_true, decide_eq_true_eq, decide_eq_true_eq] at h2
  exact h2
instance : Inhabited Rc := ⟨zRc⟩
section
variable {H : Type} {enc : TypeId × Value → H} {w : World} {base : Nat} {spare : Nat → Bool} {held : Bool}
theorem rc_of_cells {cs : List Value} {i m p a l : Int} {c : Bool} {B : Nat → Int} (hl : cs.length = 12) (h0 : cs[0]? = some (.int .i64 i)) (h1 : cs[1]? = some (.int .i64 m)) (h2 : cs[2]? = some (.int .i64 p)) (h3 : cs[3]? = some (.int .i64 a)) (h4 : cs[4]? = some (.bool c)) (h5 : cs[5]? = some (.int .i64 l)) (hB : ∀ i, i < 6 → cs[6 + i]? = some (.int .i64 (B i))) : cs = cRc ⟨i, m, p, a, c, l, B 0, B 1, B 2, B 3, B 4, B 5⟩ := by
  match cs, hl with
  | [c0, c1, c2, c3, c4, c5, c6, c7, c8, c9, c10, c11], _ =>
    have b0 := hB 0 (by omega)
    have b1 := hB 1 (by omega)
    have b2 := hB 2 (by omega)
    have b3 := hB 3 (by omega)
    have b4 := hB 4 (by omega)
    have b5 := hB 5 (by omega)
    simp at h0 h1 h2 h3 h4 h5 b0 b1 b2 b3 b4 b5
    rw [h0, h1, h2, h3, h4, h5, b0, b1, b2, b3, b4, b5]
    rfl
theorem rec_open {fuel : Nat} {cs : List Value} {x : DataW H × List MemPlace} (hl : cs.length = 12) (h : DataW.trod enc Try.prog w base spare held fuel 52 cs = some x) : ∃ r : Rc, cs = cRc r ∧ Rg r.id := by
  obtain ⟨xs, n, _, _, _, hxl, hx⟩ := DataW.trod_struct Try.underlying52 h
  have hxl2 : xs.length = 7 := hxl
  have hc0 : Try.prog.cellsOf 46 = 1 := by kernel_rfl
  have f0 : DataW.trod enc Try.prog w base spare held n 46 ((cs.drop 0).take 1) = some (xs[0]'(by omega)) := by
    have := (hx 0 _ rfl).trans (List.getElem?_eq_getElem (show 0 < xs.length by omega))
    exact (congrArg (fun c => DataW.trod enc Try.prog w base spare held n 46 ((cs.drop 0).take c)) hc0.symm).trans this
  have hc1 : Try.prog.cellsOf 3 = 1 := by kernel_rfl
  have f1 : DataW.trod enc Try.prog w base spare held n 3 ((cs.drop 1).take 1) = some (xs[1]'(by omega)) := by
    have := (hx 1 _ rfl).trans (List.getElem?_eq_getElem (show 1 < xs.length by omega))
    exact (congrArg (fun c => DataW.trod enc Try.prog w base spare held n 3 ((cs.drop 1).take c)) hc1.symm).trans this
  have hc2 : Try.prog.cellsOf 3 = 1 := by kernel_rfl
  have f2 : DataW.trod enc Try.prog w base spare held n 3 ((cs.drop 2).take 1) = some (xs[2]'(by omega)) := by
    have := (hx 2 _ rfl).trans (List.getElem?_eq_getElem (show 2 < xs.length by omega))
    exact (congrArg (fun c => DataW.trod enc Try.prog w base spare held n 3 ((cs.drop 2).take c)) hc2.symm).trans this
  have hc3 : Try.prog.cellsOf 3 = 1 := by kernel_rfl
  have f3 : DataW.trod enc Try.prog w base spare held n 3 ((cs.drop 3).take 1) = some (xs[3]'(by omega)) := by
    have := (hx 3 _ rfl).trans (List.getElem?_eq_getElem (show 3 < xs.length by omega))
    exact (congrArg (fun c => DataW.trod enc Try.prog w base spare held n 3 ((cs.drop 3).take c)) hc3.symm).trans this
  have hc4 : Try.prog.cellsOf 4 = 1 := by kernel_rfl
  have f4 : DataW.trod enc Try.prog w base spare held n 4 ((cs.drop 4).take 1) = some (xs[4]'(by omega)) := by
    have := (hx 4 _ rfl).trans (List.getElem?_eq_getElem (show 4 < xs.length by omega))
    exact (congrArg (fun c => DataW.trod enc Try.prog w base spare held n 4 ((cs.drop 4).take c)) hc4.symm).trans this
  have hc5 : Try.prog.cellsOf 3 = 1 := by kernel_rfl
  have f5 : DataW.trod enc Try.prog w base spare held n 3 ((cs.drop 5).take 1) = some (xs[5]'(by omega)) := by
    have := (hx 5 _ rfl).trans (List.getElem?_eq_getElem (show 5 < xs.length by omega))
    exact (congrArg (fun c => DataW.trod enc Try.prog w base spare held n 3 ((cs.drop 5).take c)) hc5.symm).trans this
  have hc6 : Try.prog.cellsOf 48 = 6 := by kernel_rfl
  have f6 : DataW.trod enc Try.prog w base spare held n 48 ((cs.drop 6).take 6) = some (xs[6]'(by omega)) := by
    have := (hx 6 _ rfl).trans (List.getElem?_eq_getElem (show 6 < xs.length by omega))
    exact (congrArg (fun c => DataW.trod enc Try.prog w base spare held n 48 ((cs.drop 6).take c)) hc6.symm).trans this
  obtain ⟨v0, e0, _, w0⟩ := DataW.trod_int Try.underlying46 f0
  obtain ⟨v1, e1, _, _⟩ := DataW.trod_int Try.underlying3 f1
  obtain ⟨v2, e2, _, _⟩ := DataW.trod_int Try.underlying3 f2
  obtain ⟨v3, e3, _, _⟩ := DataW.trod_int Try.underlying3 f3
  obtain ⟨v4, e4, _⟩ := DataW.trod_bool Try.underlying4 f4
  obtain ⟨v5, e5, _, _⟩ := DataW.trod_int Try.underlying3 f5
  obtain ⟨B, hB⟩ := box_nums f6
  exact ⟨_, rc_of_cells hl (piece1 e0) (piece1 e1) (piece1 e2) (piece1 e3) (piece1 e4) (piece1 e5) (fun i hi => nums_piece hB hi), rg_wf12 w0⟩
theorem open_recs {fuel : Nat} {cs : List Value} {x : DataW H × List MemPlace} (h : DataW.trod enc Try.prog w base (fun _ => true) held fuel 43 cs = some x) : ∃ a len cap X, cs = [.slice a len cap] ∧ RcRow w a len X ∧ len ≤ cap ∧ cap ≤ maxLen ∧ (∀ r ∈ X, Rg r.id) ∧ (len = 0 ∨ ∃ es sp, x.1 = .slice es sp ∧ es.length = len) := by
  rcases open_slice Try.underlying43 h with ⟨hcs, _⟩ | ⟨ad, len, c, m, n, D, Pl, hcs, _, hlc, hm, hmm, hxx, hi⟩
  · exact ⟨none, 0, 0, [], hcs, ⟨rfl, by omega, .inl rfl⟩, Nat.le_refl _, by unfold maxLen; omega, (fun x hx => by cases hx), Or.inl rfl⟩
  · have hcm := hm
    unfold maxLen at hm
    have hC : Try.prog.cellsOf 52 = 12 := by kernel_rfl
    rw [hC] at hi
    simp only [if_true] at hmm
    subst hmm
    obtain ⟨V, hV⟩ := choose_lt (α := Rc) (n := len) (p := fun i x => (∀ j v, (cRc x)[j]? = some v → w.cell? ((ad.add (i * 12)).add j) = some v) ∧ Rg x.id) (fun i hil => by
      obtain ⟨cs', hc, ht⟩ := hi i (by omega)
      obtain ⟨_, hlen, hat⟩ := World.cells?_some hc
      obtain ⟨x, hx, hb⟩ := rec_open hlen ht
      refine ⟨x, fun j v hv => ?_, hb⟩
      have hj : j < 12 := by have := (List.getElem?_eq_some_iff.1 hv).1; rw [cRc_len] at this; exact this
      rw [hat j hj, hx]
      exact hv)
    refine ⟨some ad, len, _, (List.range len).map V, hcs, ⟨by simp, by omega, ?_⟩, hlc, hcm, fun x hx => ?_, Or.inr ⟨_, _, by rw [hxx], by simp⟩⟩
    · by_cases h0 : len = 0
      · exact .inl h0
      · obtain ⟨b, off, spot⟩ := ad
        have c0 := (hV 0 (by omega)).1 0 _ rfl
        have hspot : spot = none := by simpa [Addr.add] using World.cell?_spot c0
        subst hspot
        have hb : b < w.heap.size := by
          have := World.block_lt_of_cell? _ _ c0
          simpa [add_plain] using this
        refine .inr ⟨b, off, rfl, hb, fun i x hx => ?_⟩
        have hil : i < len := by have := (List.getElem?_eq_some_iff.1 hx).1; simpa using this
        have e : V i = x := by
          rw [List.getElem?_map, List.getElem?_range hil] at hx
          simpa using hx
        rw [← e]
        intro j v hv
        have := (hV i hil).1 j v hv
        simpa only [add_plain] using this
    · obtain ⟨i, hi2, e⟩ := List.mem_map.1 hx
      rw [← e]
      exact (hV i (List.mem_range.1 hi2)).2
end
end Go.Proofs.Ytjcibffhlhdjeaa
namespace Go.Proofs.Ytjcibffhlhdjeaa
open Go.RowKit

theorem rise_rem {A : List Rc} (h : Rise A) (zs : List Int) : Rise (remL A zs) := List.Pairwise.sublist List.filter_sublist h
theorem look_rem (A : List Rc) (zs : List Int) (k : Int) : look k (remL A zs) = if k ∈ zs then none else look k A := by
  unfold look remL
  rw [List.find?_filter]
  by_cases h : k ∈ zs
  · rw [if_pos h, List.find?_eq_none]
    intro x hx
    by_cases e : x.id = k
    · rw [e]; simp [h]
    · simp [e]
  · rw [if_neg h]
    refine congrArg (fun f => List.find? f A) (funext fun r => ?_)
    by_cases e : r.id = k
    · rw [e]; simp [h]
    · simp [e]
end Go.Proofs.Ytjcibffhlhdjeaa
namespace Go.Proofs.Ytjcibffhlhdjeaa
open Go.ChangeShapes Go.WideShapes Go.ChangeAt Go.RowKit Go.Deep
set_option linter.unusedVariables false

def cPl (P : Nat → Int) : List Value := [.int .i64 (P 0), .int .i64 (P 1), .int .i64 (P 2), .int .i64 (P 3)]
theorem cPl_len (P : Nat → Int) : (cPl P).length = 4 := rfl
theorem cPl_one (P : Nat → Int) : ∀ u ∈ cPl P, u.oneCell' = true := fun u hu => by
  simp [cPl] at hu
  rcases hu with rfl | rfl | rfl | rfl <;> rfl
abbrev PlRow := RowX 4 cPl
def cVw (s : Value) (E : Nat → Int) (m : Int) : List Value := [s, .int .i64 (E 0), .int .i64 (E 1), .int .i64 (E 2), .int .i64 (E 3), .int .i64 m]
section
variable {H : Type} {enc : TypeId × Value → H} {w : World} {base : Nat} {spare : Nat → Bool} {held : Bool}
theorem open_pls {fuel : Nat} {cs : List Value} {x : DataW H × List MemPlace} (h : DataW.trod enc Try.prog w base (fun _ => true) held fuel 35 cs = some x) : ∃ a len cap X, cs = [.slice a len cap] ∧ PlRow w a len X ∧ len ≤ cap ∧ cap ≤ maxLen := by
  rcases open_slice Try.underlying35 h with ⟨hcs, _⟩ | ⟨ad, len, c, m, n, D, Pl, hcs, _, hlc, hm, hmm, hxx, hi⟩
  · exact ⟨none, 0, 0, [], hcs, ⟨rfl, by omega, .inl rfl⟩, Nat.le_refl _, by unfold maxLen; omega⟩
  · have hcm := hm
    unfold maxLen at hm
    have hC : Try.prog.cellsOf 40 = 4 := by kernel_rfl
    rw [hC] at hi
    simp only [if_true] at hmm
    subst hmm
    obtain ⟨V, hV⟩ := choose_lt (α := Nat → Int) (n := len) (p := fun i M => ∀ j, j < 4 → w.cell? ((ad.add (i * 4)).add j) = some (.int .i64 (M j))) (fun i hil => by
      obtain ⟨cs', hc, ht⟩ := hi i (by omega)
      obtain ⟨_, hlen, hat⟩ := World.cells?_some hc
      obtain ⟨M, hM⟩ := plane_nums ht
      exact ⟨M, fun j hj => by rw [hat j (by omega)]; exact hM j hj⟩)
    refine ⟨some ad, len, _, (List.range len).map V, hcs, ⟨by simp, by omega, ?_⟩, hlc, hcm⟩
    by_cases h0 : len = 0
    · exact .inl h0
    · obtain ⟨b, off, spot⟩ := ad
      have c0 := hV 0 (by omega) 0 (by omega)
      have hspot : spot = none := by simpa [Addr.add] using World.cell?_spot c0
      subst hspot
      have hb : b < w.heap.size := by
        have := World.block_lt_of_cell? _ _ c0
        simpa [add_plain] using this
      refine .inr ⟨b, off, rfl, hb, fun i x hx => ?_⟩
      have hil : i < len := by have := (List.getElem?_eq_some_iff.1 hx).1; simpa using this
      have e : V i = x := by
        rw [List.getElem?_map, List.getElem?_range hil] at hx
        simpa using hx
      rw [← e]
      intro j v hv
      have hj : j < 4 := by have := (List.getElem?_eq_some_iff.1 hv).1; rw [cPl_len] at this; exact this
      have q := hV i hil j hj
      have q2 : (cPl (V i))[j]? = some (.int .i64 (V i j)) := by
        obtain rfl | rfl | rfl | rfl : j = 0 ∨ j = 1 ∨ j = 2 ∨ j = 3 := by omega
        all_goals rfl
      rw [q2] at hv
      rw [← Option.some.inj hv]
      simpa only [add_plain] using q
theorem vw_of_cells {cs : List Value} {s : Value} {E : Nat → Int} {m : Int} (hl : cs.length = 6) (h0 : cs[0]? = some s) (hE : ∀ i, i < 4 → cs[1 + i]? = some (.int .i64 (E i))) (h5 : cs[5]? = some (.int .i64 m)) : cs = cVw s E m := by
  match cs, hl with
  | [c0, c1, c2, c3, c4, c5], _ =>
    have b0 := hE 0 (by omega)
    have b1 := hE 1 (by omega)
    have b2 := hE 2 (by omega)
    have b3 := hE 3 (by omega)
    simp at h0 h5 b0 b1 b2 b3
    rw [h0, h5, b0, b1, b2, b3]
    rfl
theorem view_open {fuel : Nat} {cs : List Value} {x : DataW H × List MemPlace} (hl : cs.length = 6) (h : DataW.trod enc Try.prog w base (fun _ => true) held fuel 42 cs = some x) : ∃ a len cap X E m, cs = cVw (.slice a len cap) E m ∧ PlRow w a len X ∧ len ≤ cap ∧ cap ≤ maxLen := by
  obtain ⟨xs, n, _, _, _, hxl, hx⟩ := DataW.trod_struct Try.underlying42 h
  have hxl2 : xs.length = 3 := hxl
  have hc0 : Try.prog.cellsOf 35 = 1 := by kernel_rfl
  have f0 : DataW.trod enc Try.prog w base (fun _ => true) held n 35 ((cs.drop 0).take 1) = some (xs[0]'(by omega)) := by
    have := (hx 0 _ rfl).trans (List.getElem?_eq_getElem (show 0 < xs.length by omega))
    exact (congrArg (fun c => DataW.trod enc Try.prog w base (fun _ => true) held n 35 ((cs.drop 0).take c)) hc0.symm).trans this
  have hc1 : Try.prog.cellsOf 40 = 4 := by kernel_rfl
  have f1 : DataW.trod enc Try.prog w base (fun _ => true) held n 40 ((cs.drop 1).take 4) = some (xs[1]'(by omega)) := by
    have := (hx 1 _ rfl).trans (List.getElem?_eq_getElem (show 1 < xs.length by omega))
    exact (congrArg (fun c => DataW.trod enc Try.prog w base (fun _ => true) held n 40 ((cs.drop 1).take c)) hc1.symm).trans this
  have hc2 : Try.prog.cellsOf 3 = 1 := by kernel_rfl
  have f2 : DataW.trod enc Try.prog w base (fun _ => true) held n 3 ((cs.drop 5).take 1) = some (xs[2]'(by omega)) := by
    have := (hx 2 _ rfl).trans (List.getElem?_eq_getElem (show 2 < xs.length by omega))
    exact (congrArg (fun c => DataW.trod enc Try.prog w base (fun _ => true) held n 3 ((cs.drop 5).take c)) hc2.symm).trans this
  obtain ⟨a, len, cap, X, e0, r1, r2, r3⟩ := open_pls f0
  obtain ⟨E, hE⟩ := plane_nums f1
  obtain ⟨m, e2, _, _⟩ := DataW.trod_int Try.underlying3 f2
  exact ⟨a, len, cap, X, E, m, vw_of_cells hl (piece1 e0) (fun i hi => nums_piece hE hi) (piece1 e2), r1, r2, r3⟩
end
end Go.Proofs.Ytjcibffhlhdjeaa
namespace Go.Proofs.Ytjcibffhlhdjeaa
open Go.RowKit

def okPls (X : List (Nat → Int)) : Bool := X.all okPlane
theorem okPls_succ {X : List (Nat → Int)} {k : Nat} {P : Nat → Int} (h : X[k]? = some P) (h1 : okPls (X.take k) = true) (h2 : okPlane P = true) : okPls (X.take (k + 1)) = true := by
  unfold okPls at *
  rw [List.take_add_one, h, List.all_append, h1]
  simp [h2]
theorem okPls_bad {X : List (Nat → Int)} {k : Nat} {P : Nat → Int} (h : X[k]? = some P) (h2 : okPlane P = false) : okPls X = false := by
  unfold okPls
  rw [List.all_eq_false]
  exact ⟨P, List.mem_of_getElem? h, by rw [h2]; simp⟩
structure Vw where
  ps : List (Nat → Int)
  eye : Nat → Int
  m : Int
def okVw (v : Vw) : Bool := decide (v.ps.length ≤ 8) && (okPls v.ps && (okPlane v.eye && (decide (0 ≤ v.m) && decide (v.m ≤ 255))))
theorem bits_comm (a b : Int) : bits .and .i64 a b = bits .and .i64 b a := by
  show IntKind.i64.wrap ((BitVec.ofInt 64 a &&& BitVec.ofInt 64 b).toNat : Int) = IntKind.i64.wrap ((BitVec.ofInt 64 b &&& BitVec.ofInt 64 a).toNat : Int)
  rw [BitVec.and_comm]
def stopS (B : Nat → Int) : List (Nat → Int) → Option Int
  | [] => none
  | P :: Ps => if spnE P B ≠ 0 ∨ spnHi P B < 0 then some (spnE P B) else stopS B Ps
theorem drop_at {α : Type} {X : List α} {j : Nat} {x : α} (h : X[j]? = some x) : X.drop j = x :: X.drop (j + 1) := by
  obtain ⟨hl, e⟩ := List.getElem?_eq_some_iff.1 h
  rw [List.drop_eq_getElem_cons hl, e]
theorem stop_at {B : Nat → Int} {X : List (Nat → Int)} {j : Nat} {P : Nat → Int} (h : X[j]? = some P) : stopS B (X.drop j) = if spnE P B ≠ 0 ∨ spnHi P B < 0 then some (spnE P B) else stopS B (X.drop (j + 1)) := by
  rw [drop_at h]; rfl
def seeT (v : Vw) (ly : Int) (B : Nat → Int) : Int × Bool × Int :=
  if okVw v = true then (if bits .and .i64 ly v.m = 0 then (0, false, 0) else match stopS B v.ps with
    | some e => (0, false, e)
    | none => (spnLo v.eye B, spnE v.eye B == 0, spnE v.eye B)) else (0, false, 1)
theorem see_no {v : Vw} {ly : Int} {B : Nat → Int} (h : okVw v = false) : seeT v ly B = (0, false, 1) := by unfold seeT; rw [h]; rfl
theorem see_apart {v : Vw} {ly : Int} {B : Nat → Int} (h : okVw v = true) (h2 : bits .and .i64 ly v.m = 0) : seeT v ly B = (0, false, 0) := by unfold seeT; rw [if_pos h, if_pos h2]
theorem see_stop {v : Vw} {ly : Int} {B : Nat → Int} {e : Int} (h : okVw v = true) (h2 : bits .and .i64 ly v.m ≠ 0) (h3 : stopS B v.ps = some e) : seeT v ly B = (0, false, e) := by unfold seeT; rw [if_pos h, if_neg h2, h3]
theorem see_yes {v : Vw} {ly : Int} {B : Nat → Int} (h : okVw v = true) (h2 : bits .and .i64 ly v.m ≠ 0) (h3 : stopS B v.ps = none) : seeT v ly B = (spnLo v.eye B, spnE v.eye B == 0, spnE v.eye B) := by unfold seeT; rw [if_pos h, if_neg h2, h3]
theorem pl_cells {w : World} {b o : Nat} {P : Nat → Int} (h : w.rangeAt b o (cPl P)) : w.cell? ⟨b, o, none⟩ = some (.int .i64 (P 0)) ∧ w.cell? ⟨b, o + 1, none⟩ = some (.int .i64 (P 1)) ∧ w.cell? ⟨b, o + 2, none⟩ = some (.int .i64 (P 2)) ∧ w.cell? ⟨b, o + 3, none⟩ = some (.int .i64 (P 3)) := ⟨h 0 _ rfl, h 1 _ rfl, h 2 _ rfl, h 3 _ rfl⟩
theorem take_all {α : Type} {X : List α} {n : Nat} (h : X.length = n) : X.take n = X := List.take_of_length_le (by omega)
set_option maxHeartbeats 2000000 in
theorem shplanes_any (a : Option Addr) (len cap : Nat) (X : List (Nat → Int)) (w : World) (row : PlRow w a len X) :
    Calls Try.prog 36 #[.slice a len cap] w fun e w' => e = .returned (.bool (okPls X)) ∧ Below w.heap.size w w' := by
  have hbig := row.2.1
  have HLn := Lib.hid row.1
  have HRow := Lib.hid row
  clear row
  go_enter Try.func36, Try.ntmps36
  go_wp2
  go_loopw [4, 7] (fun _ i wr => ∃ k : Nat, k ≤ len ∧ i = .int .i64 k ∧ okPls (X.take k) = true ∧ Below w.heap.size w wr) (fun _ i _ => len - (ivl i).toNat)
  case atStart => exact ⟨0, Nat.zero_le _, rfl, rfl, Below.refl _ _⟩
  case round =>
    obtain ⟨k, hk, rfl, hr, hb⟩ := hrel
    have HR := Lib.hid hr
    have HB := Lib.hid hb
    clear hr hb
    by_cases hlt : k < len
    · obtain ⟨b, off, P, rfl, hbl, hx, hv⟩ := HRow.out.at_ hlt
      obtain ⟨m0, m1, m2, m3⟩ := pl_cells (range_same hv (HB.out.block b hbl))
      have HX := Lib.hid hx
      have hz : okPlane P = (ok3 (P 0) (P 1) (P 2) && okB (P 3)) := by unfold okPlane ok3 rightB; simp [Bool.and_assoc]
      clear hv hx hbl
      by_cases h3 : ok3 (P 0) (P 1) (P 2) = true
      · have H3 := Lib.hid ((rightV1 _ _ _).trans h3)
        by_cases h1 : okB (P 3) = true
        · have H1 := Lib.hid (show rightB [P 3] = true by unfold rightB; simp [h1])
          have HG := Lib.hid (show okPlane P = true by rw [hz, h3, h1]; rfl)
          clear h3 h1 hz
          go_wp2_with fail
          refine (vright_b H3.out (vrow1 (blkAt (Blk.new _ _ _) (by simp)))).mono ?_
          rintro e w1 ⟨rfl, b1⟩
          have K1 := Lib.hid ((((Blk.new wr 40 _).alloc _).keep b1))
          have B1 := Lib.hid (bthen (balloc (balloc HB.out _) _) b1)
          clear b1 m0 m1 m2 m3
          obtain ⟨d0, d1, d2, d3⟩ := blk4 K1.out
          have z1 := K1.out.lt
          go_wp2_with fail
          refine (right_b H1.out (row1 w1 (P 3) _)).mono ?_
          rintro e w2 ⟨rfl, rfl⟩
          have B2 := Lib.hid (balloc B1.out (.cells #[.int .i64 (P 3)] 36))
          clear d0 d1 d2 d3 z1
          go_wp2
          go_roundw
          case rel => exact ⟨k + 1, by omega, by go_num, okPls_succ HX.out HR.out HG.out, B2.out⟩
          case measure => simp [ivl] <;> omega
        · have h1' : okB (P 3) = false := by simpa using h1
          have H1 := Lib.hid (show rightB [P 3] = false by unfold rightB; simp [h1'])
          have HG := Lib.hid (show okPlane P = false by rw [hz, h3, h1']; rfl)
          clear h3 h1 h1' hz
          go_wp2_with fail
          refine (vright_b H3.out (vrow1 (blkAt (Blk.new _ _ _) (by simp)))).mono ?_
          rintro e w1 ⟨rfl, b1⟩
          have K1 := Lib.hid ((((Blk.new wr 40 _).alloc _).keep b1))
          have B1 := Lib.hid (bthen (balloc (balloc HB.out _) _) b1)
          clear b1 m0 m1 m2 m3
          obtain ⟨d0, d1, d2, d3⟩ := blk4 K1.out
          have z1 := K1.out.lt
          go_wp2_with fail
          refine (right_b H1.out (row1 w1 (P 3) _)).mono ?_
          rintro e w2 ⟨rfl, rfl⟩
          have B2 := Lib.hid (balloc B1.out (.cells #[.int .i64 (P 3)] 36))
          clear d0 d1 d2 d3 z1
          go_wp2
          go_ret
          exact ⟨by rw [okPls_bad HX.out HG.out]; rfl, B2.out⟩
      · have h3' : ok3 (P 0) (P 1) (P 2) = false := by simpa using h3
        have H3 := Lib.hid ((rightV1 _ _ _).trans h3')
        have HG := Lib.hid (show okPlane P = false by rw [hz, h3']; rfl)
        clear h3 h3' hz
        go_wp2_with fail
        refine (vright_b H3.out (vrow1 (blkAt (Blk.new _ _ _) (by simp)))).mono ?_
        rintro e w1 ⟨rfl, b1⟩
        have B1 := Lib.hid (bthen (balloc (balloc HB.out _) _) b1)
        clear b1 m0 m1 m2 m3
        go_wp2
        go_ret
        exact ⟨by rw [okPls_bad HX.out HG.out]; rfl, B1.out⟩
    · obtain rfl : k = len := by omega
      go_wp2
      go_ret
      exact ⟨by rw [← HR.out, take_all HLn.out]; rfl, HB.out⟩
theorem shplanes_b {a : Option Addr} {len cap : Nat} {X : List (Nat → Int)} {w : World} {b : Bool} (row : PlRow w a len X) (h : okPls X = b) :
    Calls Try.prog 36 #[.slice a len cap] w fun e w' => e = .returned (.bool b) ∧ Below w.heap.size w w' := (shplanes_any a len cap X w row).mono fun _ _ ⟨he, hw⟩ => ⟨by rw [he, h], hw⟩
theorem vblk {w : World} {g : Nat} {t : TypeId} {x0 x1 x2 x3 x4 x5 : Value} (h : Blk w g t #[x0, x1, x2, x3, x4, x5]) : w.cell? ⟨g, 0, none⟩ = some x0 ∧ w.cell? ⟨g, 1, none⟩ = some x1 ∧ w.cell? ⟨g, 2, none⟩ = some x2 ∧ w.cell? ⟨g, 3, none⟩ = some x3 ∧ w.cell? ⟨g, 4, none⟩ = some x4 ∧ w.cell? ⟨g, 5, none⟩ = some x5 ∧ g < w.heap.size := ⟨h.cell 0, h.cell 1, h.cell 2, h.cell 3, h.cell 4, h.cell 5, h.lt⟩
theorem common_any (x y : Int) (w : World) : Calls Try.prog 56 #[.int .i64 x, .int .i64 y] w fun e w' => e = .returned (.bool (bits .and .i64 x y != 0)) ∧ w = w' := by
  obtain ⟨z, hz⟩ : ∃ z, bits .and .i64 x y = z := ⟨_, rfl⟩
  go_enter Try.func56, Try.ntmps56
  go_wp2
  go_ret
  exact ⟨by rw [hz]; rfl, rfl⟩
set_option maxHeartbeats 4000000 in
theorem viwright_any (a : Option Addr) (len cap : Nat) (X : List (Nat → Int)) (E : Nat → Int) (m : Int) (w : World) (row : PlRow w a len X) :
    Calls Try.prog 21 #[.agg #[.slice a len cap, .int .i64 (E 0), .int .i64 (E 1), .int .i64 (E 2), .int .i64 (E 3), .int .i64 m]] w fun e w' => e = .returned (.bool (okVw ⟨X, E, m⟩)) ∧ Below w.heap.size w w' := by
  have hbig := row.2.1
  have HLn := Lib.hid row.1
  have HRow := Lib.hid (row.keep (alloc_below w (.cells #[.slice a len cap, .int .i64 (E 0), .int .i64 (E 1), .int .i64 (E 2), .int .i64 (E 3), .int .i64 m] 42)))
  have HV : Hid (∀ b0 b1 b2 b3 b4 : Bool, decide (len ≤ 8) = b0 → okPls X = b1 → okPlane E = b2 → decide (0 ≤ m) = b3 → decide (m ≤ 255) = b4 → okVw ⟨X, E, m⟩ = (b0 && (b1 && (b2 && (b3 && b4))))) := Lib.hid (fun b0 b1 b2 b3 b4 h0 h1 h2 h3 h4 => by rw [← h0, ← h1, ← h2, ← h3, ← h4, ← row.1]; rfl)
  obtain ⟨b1, hb1⟩ : ∃ b1, okPls X = b1 := ⟨_, rfl⟩
  obtain ⟨b2, hb2⟩ : ∃ b2, okPlane E = b2 := ⟨_, rfl⟩
  have HB1 := Lib.hid hb1
  have HB2 := Lib.hid hb2
  clear row hb1 hb2
  go_enter Try.func21, Try.ntmps21
  by_cases h8 : len ≤ 8
  · have h8' : (len : Int) ≤ 8 := by omega
    have H8 := Lib.hid (decide_eq_true h8)
    clear h8
    go_wp2_with fail
    refine (shplanes_b HRow.out HB1.out).mono ?_
    rintro e w1 ⟨rfl, q1⟩
    have K1 := Lib.hid ((Blk.new w 42 #[.slice a len cap, .int .i64 (E 0), .int .i64 (E 1), .int .i64 (E 2), .int .i64 (E 3), .int .i64 m]).keep q1)
    have B1 := Lib.hid (bthen (alloc_below w (.cells #[.slice a len cap, .int .i64 (E 0), .int .i64 (E 1), .int .i64 (E 2), .int .i64 (E 3), .int .i64 m] 42)) q1)
    clear q1
    obtain ⟨c0, c1, c2, c3, c4, c5, z⟩ := vblk K1.out
    cases b1
    · go_wp2
      go_ret
      exact ⟨by rw [HV.out _ _ _ _ _ H8.out HB1.out rfl rfl rfl]; rfl, B1.out⟩
    · go_wp2_with fail
      refine (shplane_b _ (blkAt (Blk.new _ _ _) (by simp)) HB2.out).mono ?_
      rintro e w2 ⟨rfl, q2⟩
      have K2 := Lib.hid ((K1.out.alloc (.cells #[.int .i64 (E 0), .int .i64 (E 1), .int .i64 (E 2), .int .i64 (E 3)] 40)).keep q2)
      have B2 := Lib.hid (bthen (balloc B1.out (.cells #[.int .i64 (E 0), .int .i64 (E 1), .int .i64 (E 2), .int .i64 (E 3)] 40)) q2)
      clear q2 c0 c1 c2 c3 c4 c5 z K1 B1
      obtain ⟨c0, c1, c2, c3, c4, c5, z⟩ := vblk K2.out
      cases b2
      · go_wp2
        go_ret
        exact ⟨by rw [HV.out _ _ _ _ _ H8.out HB1.out HB2.out rfl rfl]; rfl, B2.out⟩
      · by_cases h0 : 0 ≤ m
        · go_wp2
          go_ret
          exact ⟨by rw [HV.out _ _ _ _ _ H8.out HB1.out HB2.out (decide_eq_true h0) rfl]; rfl, B2.out⟩
        · go_wp2
          go_ret
          exact ⟨by rw [HV.out _ _ _ _ _ H8.out HB1.out HB2.out (decide_eq_false (show ¬ 0 ≤ m by omega)) rfl]; rfl, B2.out⟩
  · have h8' : ¬ (len : Int) ≤ 8 := by omega
    have H8 := Lib.hid (decide_eq_false h8)
    clear h8
    go_wp2
    go_ret
    exact ⟨by rw [HV.out _ _ _ _ _ H8.out HB1.out HB2.out rfl rfl]; rfl, alloc_below _ _⟩
set_option maxHeartbeats 4000000 in
theorem rviwright_any (a : Option Addr) (len cap : Nat) (X : List (Nat → Int)) (E : Nat → Int) (m : Int) (w : World) (row : PlRow w a len X) :
    Calls Try.prog 29 #[.agg #[.slice a len cap, .int .i64 (E 0), .int .i64 (E 1), .int .i64 (E 2), .int .i64 (E 3), .int .i64 m]] w fun e w' => e = .returned (.bool (okVw ⟨X, E, m⟩)) ∧ Below w.heap.size w w' := by
  have hbig := row.2.1
  have HLn := Lib.hid row.1
  have HRow := Lib.hid (row.keep (alloc_below w (.cells #[.slice a len cap, .int .i64 (E 0), .int .i64 (E 1), .int .i64 (E 2), .int .i64 (E 3), .int .i64 m] 42)))
  have HV : Hid (∀ b0 b1 b2 b3 b4 : Bool, decide (len ≤ 8) = b0 → okPls X = b1 → okPlane E = b2 → decide (0 ≤ m) = b3 → decide (m ≤ 255) = b4 → okVw ⟨X, E, m⟩ = (b0 && (b1 && (b2 && (b3 && b4))))) := Lib.hid (fun b0 b1 b2 b3 b4 h0 h1 h2 h3 h4 => by rw [← h0, ← h1, ← h2, ← h3, ← h4, ← row.1]; rfl)
  obtain ⟨b2, hb2⟩ : ∃ b2, okPlane E = b2 := ⟨_, rfl⟩
  have HB2 := Lib.hid hb2
  clear row hb2
  go_enter Try.func29, Try.ntmps29
  go_wp2_with fail
  refine (rplane_b HB2.out _).mono ?_
  rintro e w1 ⟨rfl, q1⟩
  have K1 := Lib.hid ((Blk.new w 42 #[.slice a len cap, .int .i64 (E 0), .int .i64 (E 1), .int .i64 (E 2), .int .i64 (E 3), .int .i64 m]).keep q1)
  have B1 := Lib.hid (bthen (alloc_below w (.cells #[.slice a len cap, .int .i64 (E 0), .int .i64 (E 1), .int .i64 (E 2), .int .i64 (E 3), .int .i64 m] 42)) q1)
  have RwK := Lib.hid (HRow.out.keep q1)
  clear q1 HRow
  obtain ⟨c0, c1, c2, c3, c4, c5, z⟩ := vblk K1.out
  by_cases h8 : 8 < len
  · have h8' : (8 : Int) < (len : Int) := by omega
    go_wp2
    go_ret
    exact ⟨by rw [HV.out _ _ _ _ _ (decide_eq_false (show ¬ len ≤ 8 by omega)) rfl rfl rfl rfl]; rfl, B1.out⟩
  · have h8' : ¬ (8 : Int) < (len : Int) := by omega
    have H8 := Lib.hid (decide_eq_true (show len ≤ 8 by omega))
    by_cases h0 : m < 0
    · go_wp2
      go_ret
      exact ⟨by rw [HV.out _ _ _ _ _ H8.out rfl rfl (decide_eq_false (show ¬ 0 ≤ m by omega)) rfl]; simp, B1.out⟩
    · have H0 := Lib.hid (decide_eq_true (show 0 ≤ m by omega))
      by_cases h1 : 255 < m
      · go_wp2
        go_ret
        exact ⟨by rw [HV.out _ _ _ _ _ H8.out rfl rfl H0.out (decide_eq_false (show ¬ m ≤ 255 by omega))]; simp, B1.out⟩
      · have H1 := Lib.hid (decide_eq_true (show m ≤ 255 by omega))
        cases b2
        · go_wp2
          go_ret
          exact ⟨by rw [HV.out _ _ _ _ _ H8.out rfl HB2.out H0.out H1.out]; simp, B1.out⟩
        · clear h8
          go_wp2
          clear c0 c1 c2 c3 c4 c5 z h8' h0 h1
          go_loopw [4, 5] (fun i _ wr => ∃ k : Nat, k ≤ len ∧ i = .int .i64 k ∧ okPls (X.take k) = true ∧ Below w1.heap.size w1 wr) (fun i _ _ => len - (ivl i).toNat)
          case atStart => exact ⟨0, Nat.zero_le _, rfl, rfl, Below.refl _ _⟩
          case round =>
            obtain ⟨k, hk, rfl, hr, hb⟩ := hrel
            have HR := Lib.hid hr
            have HB := Lib.hid hb
            clear hr hb
            obtain ⟨c0, c1, c2, c3, c4, c5, z⟩ := vblk (K1.out.keep HB.out)
            by_cases hlt : k < len
            · have hk0 : (0 : Int) ≤ (k : Int) := by omega
              have hk1 : (k : Int) < (len : Int) := by omega
              obtain ⟨b, off, P, rfl, hbl, hx, hv⟩ := RwK.out.at_ hlt
              obtain ⟨m0, m1, m2, m3⟩ := pl_cells (range_same hv (HB.out.block b hbl))
              have HX := Lib.hid hx
              obtain ⟨g, hg⟩ : ∃ g, okPlane P = g := ⟨_, rfl⟩
              have HG := Lib.hid hg
              clear hv hx hbl hg
              go_wp2_with fail
              refine (rplane_b HG.out _).mono ?_
              rintro e w2 ⟨rfl, q2⟩
              have B2 := Lib.hid (bthen HB.out q2)
              clear q2 m0 m1 m2 m3 c0 c1 c2 c3 c4 c5 z
              cases g
              · go_wp2
                go_ret
                exact ⟨by rw [HV.out _ _ _ _ _ H8.out (okPls_bad HX.out HG.out) HB2.out H0.out H1.out]; rfl, bthen B1.out B2.out⟩
              · go_wp2
                go_roundw
                case rel => exact ⟨k + 1, by omega, by go_num, okPls_succ HX.out HR.out HG.out, B2.out⟩
                case measure => simp [ivl] <;> omega
            · obtain rfl : k = len := by omega
              go_wp2
              go_ret
              exact ⟨by rw [HV.out _ _ _ _ _ H8.out ((congrArg okPls (take_all HLn.out)).symm.trans HR.out) HB2.out H0.out H1.out]; rfl, bthen B1.out HB.out⟩
end Go.Proofs.Ytjcibffhlhdjeaa
