/-
  6 texts in one file, each with its own heading.
-/
import Derived.Test.YtiognhmjadiooaaRows
import Derived.Test.YtiognhmjadiooaaMV10
import Derived.Test.YtiognhmjadiooaaMV06
import Derived.Test.YtiognhmjadiooaaMV03
import Derived.WalkKit
import Derived.ProofKit
import Derived.OpenShut
import Derived.ShutString
import Derived.ChangeOld
import Derived.Below
import Derived.Deep.Slices
import Derived.Laws.IdiomArrays
import Derived.Test.YtiognhmjadiooaaMV07
import Derived.Test.YtiognhmjadiooaaMV05
import Derived.Test.YtiognhmjadiooaaMV09
/-
  Records, parts and states that came in, opened.
-/
namespace Go.Proofs.Ytiognhmjadiooaa
open Go.ChangeShapes Go.WideShapes Go.ChangeAt Go.RowKit Go.Deep
set_option linter.unusedVariables false

theorem rg_wf12 {x : Int} (h : (Lit.int .i64 x).wf = true) : Rg x := by
  have h2 : (decide (IntKind.i64.min ≤ x) && decide (x ≤ IntKind.i64.max)) = true := h
  rw [Bool.and_eq_true, decide_eq_true_eq, decide_eq_true_eq] at h2
  exact h2
instance : Inhabited Rc := ⟨zRc⟩
section
variable {H : Type} {enc : TypeId × Value → H} {w : World} {base : Nat} {spare : Nat → Bool} {held : Bool}
theorem rc_of_cells {cs : List Value} {i m p a l : Int} {c : Bool} {B : Nat → Int} (hl : cs.length = 12) (h0 : cs[0]? = some (.int .i64 i)) (h1 : cs[1]? = some (.int .i64 m)) (h2 : cs[2]? = some (.int .i64 p)) (h3 : cs[3]? = some (.int .i64 a)) (h4 : cs[4]? = some (.bool c)) (h5 : cs[5]? = some (.int .i64 l)) (hB : ∀ i, i < 6 → cs[6 + i]? = some (.int .i64 (B i))) : cs = cRc ⟨i, m, p, a, c, l, B 0, B 1, B 2, B 3, B 4, B 5⟩ := by
  match cs, hl with
  | [c0, c1, c2, c3, c4, c5, c6, c7, c8, c9, c10, c11], _ =>
    have b0 := hB 0 (by omega)
    have b1 := hB 1 (by omega)
    have b2 := hB 2 (by omega)
    have b3 := hB 3 (by omega)
    have b4 := hB 4 (by omega)
    have b5 := hB 5 (by omega)
    simp at h0 h1 h2 h3 h4 h5 b0 b1 b2 b3 b4 b5
    rw [h0, h1, h2, h3, h4, h5, b0, b1, b2, b3, b4, b5]
    rfl
theorem rec_open {fuel : Nat} {cs : List Value} {x : DataW H × List MemPlace} (hl : cs.length = 12) (h : DataW.trod enc Try.prog w base spare held fuel 35 cs = some x) : ∃ r : Rc, cs = cRc r ∧ Rg r.id := by
  obtain ⟨xs, n, _, _, _, hxl, hx⟩ := DataW.trod_struct Try.underlying35 h
  have hxl2 : xs.length = 7 := hxl
  have hc0 : Try.prog.cellsOf 31 = 1 := by kernel_rfl
  have f0 : DataW.trod enc Try.prog w base spare held n 31 ((cs.drop 0).take 1) = some (xs[0]'(by omega)) := by
    have := (hx 0 _ rfl).trans (List.getElem?_eq_getElem (show 0 < xs.length by omega))
    exact (congrArg (fun c => DataW.trod enc Try.prog w base spare held n 31 ((cs.drop 0).take c)) hc0.symm).trans this
  have hc1 : Try.prog.cellsOf 3 = 1 := by kernel_rfl
  have f1 : DataW.trod enc Try.prog w base spare held n 3 ((cs.drop 1).take 1) = some (xs[1]'(by omega)) := by
    have := (hx 1 _ rfl).trans (List.getElem?_eq_getElem (show 1 < xs.length by omega))
    exact (congrArg (fun c => DataW.trod enc Try.prog w base spare held n 3 ((cs.drop 1).take c)) hc1.symm).trans this
  have hc2 : Try.prog.cellsOf 3 = 1 := by kernel_rfl
  have f2 : DataW.trod enc Try.prog w base spare held n 3 ((cs.drop 2).take 1) = some (xs[2]'(by omega)) := by
    have := (hx 2 _ rfl).trans (List.getElem?_eq_getElem (show 2 < xs.length by omega))
    exact (congrArg (fun c => DataW.trod enc Try.prog w base spare held n 3 ((cs.drop 2).take c)) hc2.symm).trans this
  have hc3 : Try.prog.cellsOf 3 = 1 := by kernel_rfl
  have f3 : DataW.trod enc Try.prog w base spare held n 3 ((cs.drop 3).take 1) = some (xs[3]'(by omega)) := by
    have := (hx 3 _ rfl).trans (List.getElem?_eq_getElem (show 3 < xs.length by omega))
    exact (congrArg (fun c => DataW.trod enc Try.prog w base spare held n 3 ((cs.drop 3).take c)) hc3.symm).trans this
  have hc4 : Try.prog.cellsOf 4 = 1 := by kernel_rfl
  have f4 : DataW.trod enc Try.prog w base spare held n 4 ((cs.drop 4).take 1) = some (xs[4]'(by omega)) := by
    have := (hx 4 _ rfl).trans (List.getElem?_eq_getElem (show 4 < xs.length by omega))
    exact (congrArg (fun c => DataW.trod enc Try.prog w base spare held n 4 ((cs.drop 4).take c)) hc4.symm).trans this
  have hc5 : Try.prog.cellsOf 3 = 1 := by kernel_rfl
  have f5 : DataW.trod enc Try.prog w base spare held n 3 ((cs.drop 5).take 1) = some (xs[5]'(by omega)) := by
    have := (hx 5 _ rfl).trans (List.getElem?_eq_getElem (show 5 < xs.length by omega))
    exact (congrArg (fun c => DataW.trod enc Try.prog w base spare held n 3 ((cs.drop 5).take c)) hc5.symm).trans this
  have hc6 : Try.prog.cellsOf 33 = 6 := by kernel_rfl
  have f6 : DataW.trod enc Try.prog w base spare held n 33 ((cs.drop 6).take 6) = some (xs[6]'(by omega)) := by
    have := (hx 6 _ rfl).trans (List.getElem?_eq_getElem (show 6 < xs.length by omega))
    exact (congrArg (fun c => DataW.trod enc Try.prog w base spare held n 33 ((cs.drop 6).take c)) hc6.symm).trans this
  obtain ⟨v0, e0, _, w0⟩ := DataW.trod_int Try.underlying31 f0
  obtain ⟨v1, e1, _, _⟩ := DataW.trod_int Try.underlying3 f1
  obtain ⟨v2, e2, _, _⟩ := DataW.trod_int Try.underlying3 f2
  obtain ⟨v3, e3, _, _⟩ := DataW.trod_int Try.underlying3 f3
  obtain ⟨v4, e4, _⟩ := DataW.trod_bool Try.underlying4 f4
  obtain ⟨v5, e5, _, _⟩ := DataW.trod_int Try.underlying3 f5
  obtain ⟨B, hB⟩ := box_nums f6
  exact ⟨_, rc_of_cells hl (piece1 e0) (piece1 e1) (piece1 e2) (piece1 e3) (piece1 e4) (piece1 e5) (fun i hi => nums_piece hB hi), rg_wf12 w0⟩
end
end Go.Proofs.Ytiognhmjadiooaa
namespace Go.Proofs.Ytiognhmjadiooaa
open Go.ChangeShapes Go.WideShapes Go.ChangeAt Go.RowKit Go.Deep
set_option linter.unusedVariables false

def cPl (P : Nat → Int) : List Value := [.int .i64 (P 0), .int .i64 (P 1), .int .i64 (P 2), .int .i64 (P 3)]
theorem cPl_len (P : Nat → Int) : (cPl P).length = 4 := rfl
theorem cPl_one (P : Nat → Int) : ∀ u ∈ cPl P, u.oneCell' = true := fun u hu => by
  simp [cPl] at hu
  rcases hu with rfl | rfl | rfl | rfl <;> rfl
abbrev PlRow := RowX 4 cPl
def cVw (s : Value) (E : Nat → Int) (m : Int) : List Value := [s, .int .i64 (E 0), .int .i64 (E 1), .int .i64 (E 2), .int .i64 (E 3), .int .i64 m]
section
variable {H : Type} {enc : TypeId × Value → H} {w : World} {base : Nat} {spare : Nat → Bool} {held : Bool}
theorem open_pls {fuel : Nat} {cs : List Value} {x : DataW H × List MemPlace} (h : DataW.trod enc Try.prog w base (fun _ => true) held fuel 22 cs = some x) : ∃ a len cap X, cs = [.slice a len cap] ∧ PlRow w a len X ∧ len ≤ cap ∧ cap ≤ maxLen := by
  rcases open_slice Try.underlying22 h with ⟨hcs, _⟩ | ⟨ad, len, c, m, n, D, Pl, hcs, _, hlc, hm, hmm, hxx, hi⟩
  · exact ⟨none, 0, 0, [], hcs, ⟨rfl, by omega, .inl rfl⟩, Nat.le_refl _, by unfold maxLen; omega⟩
  · have hcm := hm
    unfold maxLen at hm
    have hC : Try.prog.cellsOf 27 = 4 := by kernel_rfl
    rw [hC] at hi
    simp only [if_true] at hmm
    subst hmm
    obtain ⟨V, hV⟩ := choose_lt (α := Nat → Int) (n := len) (p := fun i M => ∀ j, j < 4 → w.cell? ((ad.add (i * 4)).add j) = some (.int .i64 (M j))) (fun i hil => by
      obtain ⟨cs', hc, ht⟩ := hi i (by omega)
      obtain ⟨_, hlen, hat⟩ := World.cells?_some hc
      obtain ⟨M, hM⟩ := plane_nums ht
      exact ⟨M, fun j hj => by rw [hat j (by omega)]; exact hM j hj⟩)
    refine ⟨some ad, len, _, (List.range len).map V, hcs, ⟨by simp, by omega, ?_⟩, hlc, hcm⟩
    by_cases h0 : len = 0
    · exact .inl h0
    · obtain ⟨b, off, spot⟩ := ad
      have c0 := hV 0 (by omega) 0 (by omega)
      have hspot : spot = none := by simpa [Addr.add] using World.cell?_spot c0
      subst hspot
      have hb : b < w.heap.size := by
        have := World.block_lt_of_cell? _ _ c0
        simpa [add_plain] using this
      refine .inr ⟨b, off, rfl, hb, fun i x hx => ?_⟩
      have hil : i < len := by have := (List.getElem?_eq_some_iff.1 hx).1; simpa using this
      have e : V i = x := by
        rw [List.getElem?_map, List.getElem?_range hil] at hx
        simpa using hx
      rw [← e]
      intro j v hv
      have hj : j < 4 := by have := (List.getElem?_eq_some_iff.1 hv).1; rw [cPl_len] at this; exact this
      have q := hV i hil j hj
      have q2 : (cPl (V i))[j]? = some (.int .i64 (V i j)) := by
        obtain rfl | rfl | rfl | rfl : j = 0 ∨ j = 1 ∨ j = 2 ∨ j = 3 := by omega
        all_goals rfl
      rw [q2] at hv
      injection hv with hv
      rw [← hv]
      simpa only [add_plain] using q
theorem vw_of_cells {cs : List Value} {s : Value} {E : Nat → Int} {m : Int} (hl : cs.length = 6) (h0 : cs[0]? = some s) (hE : ∀ i, i < 4 → cs[1 + i]? = some (.int .i64 (E i))) (h5 : cs[5]? = some (.int .i64 m)) : cs = cVw s E m := by
  match cs, hl with
  | [c0, c1, c2, c3, c4, c5], _ =>
    have b0 := hE 0 (by omega)
    have b1 := hE 1 (by omega)
    have b2 := hE 2 (by omega)
    have b3 := hE 3 (by omega)
    simp at h0 h5 b0 b1 b2 b3
    rw [h0, h5, b0, b1, b2, b3]
    rfl
theorem view_open {fuel : Nat} {cs : List Value} {x : DataW H × List MemPlace} (hl : cs.length = 6) (h : DataW.trod enc Try.prog w base (fun _ => true) held fuel 29 cs = some x) : ∃ a len cap X E m, cs = cVw (.slice a len cap) E m ∧ PlRow w a len X ∧ len ≤ cap ∧ cap ≤ maxLen := by
  obtain ⟨xs, n, _, _, _, hxl, hx⟩ := DataW.trod_struct Try.underlying29 h
  have hxl2 : xs.length = 3 := hxl
  have hc0 : Try.prog.cellsOf 22 = 1 := by kernel_rfl
  have f0 : DataW.trod enc Try.prog w base (fun _ => true) held n 22 ((cs.drop 0).take 1) = some (xs[0]'(by omega)) := by
    have := (hx 0 _ rfl).trans (List.getElem?_eq_getElem (show 0 < xs.length by omega))
    exact (congrArg (fun c => DataW.trod enc Try.prog w base (fun _ => true) held n 22 ((cs.drop 0).take c)) hc0.symm).trans this
  have hc1 : Try.prog.cellsOf 27 = 4 := by kernel_rfl
  have f1 : DataW.trod enc Try.prog w base (fun _ => true) held n 27 ((cs.drop 1).take 4) = some (xs[1]'(by omega)) := by
    have := (hx 1 _ rfl).trans (List.getElem?_eq_getElem (show 1 < xs.length by omega))
    exact (congrArg (fun c => DataW.trod enc Try.prog w base (fun _ => true) held n 27 ((cs.drop 1).take c)) hc1.symm).trans this
  have hc2 : Try.prog.cellsOf 3 = 1 := by kernel_rfl
  have f2 : DataW.trod enc Try.prog w base (fun _ => true) held n 3 ((cs.drop 5).take 1) = some (xs[2]'(by omega)) := by
    have := (hx 2 _ rfl).trans (List.getElem?_eq_getElem (show 2 < xs.length by omega))
    exact (congrArg (fun c => DataW.trod enc Try.prog w base (fun _ => true) held n 3 ((cs.drop 5).take c)) hc2.symm).trans this
  obtain ⟨a, len, cap, X, e0, r1, r2, r3⟩ := open_pls f0
  obtain ⟨E, hE⟩ := plane_nums f1
  obtain ⟨m, e2, _, _⟩ := DataW.trod_int Try.underlying3 f2
  exact ⟨a, len, cap, X, E, m, vw_of_cells hl (piece1 e0) (fun i hi => nums_piece hE hi) (piece1 e2), r1, r2, r3⟩
set_option maxRecDepth 100000 in
theorem open_view {r : Reach} {b0 : Nat} {v : Value} {d : DataW H} {p : List MemPlace} (hv : Value.okWide Try.prog w r b0 29 v) (h : DataW.Trod enc Try.prog w base (fun _ => true) held 29 v d p) : ∃ a len cap X E m, v = .agg (cVw (.slice a len cap) E m).toArray ∧ PlRow w a len X ∧ len ≤ cap ∧ cap ≤ maxLen := by
  obtain ⟨cs, rfl, hs⟩ := okWide_struct Try.underlying29 hv
  rw [show Try.prog.cellsOf 29 = 6 by kernel_rfl] at hs
  obtain ⟨fuel, hf⟩ := h
  obtain ⟨l⟩ := cs
  obtain ⟨a, len, cap, X, E, m, e, r1, r2, r3⟩ := view_open (by simpa using hs) (show DataW.trod enc Try.prog w base (fun _ => true) held fuel 29 l = some (d, p) from hf)
  exact ⟨a, len, cap, X, E, m, by rw [e], r1, r2, r3⟩
set_option maxRecDepth 100000 in
theorem open_rec {r : Reach} {b0 : Nat} {v : Value} {d : DataW H} {p : List MemPlace} (hv : Value.okWide Try.prog w r b0 35 v) (h : DataW.Trod enc Try.prog w base spare held 35 v d p) : ∃ x : Rc, v = .agg (cRc x).toArray := by
  obtain ⟨cs, rfl, hs⟩ := okWide_struct Try.underlying35 hv
  rw [show Try.prog.cellsOf 35 = 12 by kernel_rfl] at hs
  obtain ⟨fuel, hf⟩ := h
  obtain ⟨l⟩ := cs
  obtain ⟨x, hx, _⟩ := rec_open (by simpa using hs) (show DataW.trod enc Try.prog w base spare held fuel 35 l = some (d, p) from hf)
  exact ⟨x, by rw [hx]⟩
set_option maxRecDepth 100000 in
theorem open_box {r : Reach} {b0 : Nat} {v : Value} {d : DataW H} {p : List MemPlace} (hv : Value.okWide Try.prog w r b0 33 v) (h : DataW.Trod enc Try.prog w base spare held 33 v d p) : ∃ B : Nat → Int, v = .agg #[.int .i64 (B 0), .int .i64 (B 1), .int .i64 (B 2), .int .i64 (B 3), .int .i64 (B 4), .int .i64 (B 5)] := by
  obtain ⟨cs, rfl, hs⟩ := okWide_struct Try.underlying33 hv
  rw [show Try.prog.cellsOf 33 = 6 by kernel_rfl] at hs
  obtain ⟨fuel, hf⟩ := h
  obtain ⟨l⟩ := cs
  obtain ⟨M, hM⟩ := box_nums (show DataW.trod enc Try.prog w base spare held fuel 33 l = some (d, p) from hf)
  refine ⟨M, ?_⟩
  have hl : l.length = 6 := by simpa using hs
  match l, hl with
  | [c0, c1, c2, c3, c4, c5], _ =>
    have h0 := hM 0 (by omega)
    have h1 := hM 1 (by omega)
    have h2 := hM 2 (by omega)
    have h3 := hM 3 (by omega)
    have h4 := hM 4 (by omega)
    have h5 := hM 5 (by omega)
    simp at h0 h1 h2 h3 h4 h5
    rw [h0, h1, h2, h3, h4, h5]
set_option maxRecDepth 100000 in
theorem open_views2 {r : Reach} {b0 : Nat} {v : Value} {d : DataW H} {p : List MemPlace} (hv : Value.okWide Try.prog w r b0 30 v) (h : DataW.Trod enc Try.prog w base (fun _ => true) held 30 v d p) : ∃ a len cap X E m a' len' cap' X' E' m', v = .agg (cVw (.slice a len cap) E m ++ cVw (.slice a' len' cap') E' m').toArray ∧ PlRow w a len X ∧ len ≤ cap ∧ cap ≤ maxLen ∧ PlRow w a' len' X' ∧ len' ≤ cap' ∧ cap' ≤ maxLen := by
  obtain ⟨cs, rfl, hs⟩ := okWide_arr Try.underlying30 hv
  rw [show Try.prog.cellsOf 30 = 12 by kernel_rfl] at hs
  obtain ⟨fuel, hf⟩ := h
  obtain ⟨l⟩ := cs
  have hl : l.length = 12 := by simpa using hs
  obtain ⟨xs, n, _, _, _, hxl, hx⟩ := DataW.trod_array Try.underlying30 (show DataW.trod enc Try.prog w base (fun _ => true) held fuel 30 l = some (d, p) from hf)
  rw [show Try.prog.cellsOf 29 = 6 by kernel_rfl] at hx
  have h0 := (hx 0 (by omega)).trans (List.getElem?_eq_getElem (show 0 < xs.length by omega))
  have h1 := (hx 1 (by omega)).trans (List.getElem?_eq_getElem (show 1 < xs.length by omega))
  obtain ⟨a, len, cap, X, E, m, e, r1, r2, r3⟩ := view_open (by rw [List.length_take, List.length_drop, hl]; rfl) h0
  obtain ⟨a', len', cap', X', E', m', e', r1', r2', r3'⟩ := view_open (by rw [List.length_take, List.length_drop, hl]; rfl) h1
  refine ⟨a, len, cap, X, E, m, a', len', cap', X', E', m', ?_, r1, r2, r3, r1', r2', r3'⟩
  rw [← e, ← e']
  congr 2
  rw [Nat.zero_mul, Nat.one_mul, List.drop_zero, List.take_of_length_le (l := l.drop 6) (by rw [List.length_drop, hl]; omega), List.take_append_drop]
end
end Go.Proofs.Ytiognhmjadiooaa
namespace Go.Proofs.Ytiognhmjadiooaa
open Go.RowKit

def okPls (X : List (Nat → Int)) : Bool := X.all okPlane
theorem okPls_succ {X : List (Nat → Int)} {k : Nat} {P : Nat → Int} (h : X[k]? = some P) (h1 : okPls (X.take k) = true) (h2 : okPlane P = true) : okPls (X.take (k + 1)) = true := by
  unfold okPls at *
  rw [List.take_add_one, h, List.all_append, h1]
  simp [h2]
theorem okPls_bad {X : List (Nat → Int)} {k : Nat} {P : Nat → Int} (h : X[k]? = some P) (h2 : okPlane P = false) : okPls X = false := by
  unfold okPls
  rw [List.all_eq_false]
  exact ⟨P, List.mem_of_getElem? h, by rw [h2]; simp⟩
structure Vw where
  ps : List (Nat → Int)
  eye : Nat → Int
  m : Int
def okVw (v : Vw) : Bool := decide (v.ps.length ≤ 8) && (okPls v.ps && (okPlane v.eye && (decide (0 ≤ v.m) && decide (v.m ≤ 255))))
theorem bits_comm (a b : Int) : bits .and .i64 a b = bits .and .i64 b a := by
  show IntKind.i64.wrap ((BitVec.ofInt 64 a &&& BitVec.ofInt 64 b).toNat : Int) = IntKind.i64.wrap ((BitVec.ofInt 64 b &&& BitVec.ofInt 64 a).toNat : Int)
  rw [BitVec.and_comm]
def stopS (B : Nat → Int) : List (Nat → Int) → Option Int
  | [] => none
  | P :: Ps => if spnE P B ≠ 0 ∨ spnHi P B < 0 then some (spnE P B) else stopS B Ps
theorem drop_at {α : Type} {X : List α} {j : Nat} {x : α} (h : X[j]? = some x) : X.drop j = x :: X.drop (j + 1) := by
  obtain ⟨hl, e⟩ := List.getElem?_eq_some_iff.1 h
  rw [List.drop_eq_getElem_cons hl, e]
theorem stop_at {B : Nat → Int} {X : List (Nat → Int)} {j : Nat} {P : Nat → Int} (h : X[j]? = some P) : stopS B (X.drop j) = if spnE P B ≠ 0 ∨ spnHi P B < 0 then some (spnE P B) else stopS B (X.drop (j + 1)) := by
  rw [drop_at h]; rfl
def seeT (v : Vw) (ly : Int) (B : Nat → Int) : Int × Bool × Int :=
  if okVw v = true then (if bits .and .i64 ly v.m = 0 then (0, false, 0) else match stopS B v.ps with
    | some e => (0, false, e)
    | none => (spnLo v.eye B, spnE v.eye B == 0, spnE v.eye B)) else (0, false, 1)
theorem see_no {v : Vw} {ly : Int} {B : Nat → Int} (h : okVw v = false) : seeT v ly B = (0, false, 1) := by unfold seeT; rw [h]; rfl
theorem see_apart {v : Vw} {ly : Int} {B : Nat → Int} (h : okVw v = true) (h2 : bits .and .i64 ly v.m = 0) : seeT v ly B = (0, false, 0) := by unfold seeT; rw [if_pos h, if_pos h2]
theorem see_stop {v : Vw} {ly : Int} {B : Nat → Int} {e : Int} (h : okVw v = true) (h2 : bits .and .i64 ly v.m ≠ 0) (h3 : stopS B v.ps = some e) : seeT v ly B = (0, false, e) := by unfold seeT; rw [if_pos h, if_neg h2, h3]
theorem see_yes {v : Vw} {ly : Int} {B : Nat → Int} (h : okVw v = true) (h2 : bits .and .i64 ly v.m ≠ 0) (h3 : stopS B v.ps = none) : seeT v ly B = (spnLo v.eye B, spnE v.eye B == 0, spnE v.eye B) := by unfold seeT; rw [if_pos h, if_neg h2, h3]
theorem stop_zero {B : Nat → Int} : ∀ {X : List (Nat → Int)} {e : Int}, stopS B X = some e → e = 0 → ∃ P ∈ X, spnE P B = 0 ∧ spnHi P B < 0
  | [], e, h, _ => by cases h
  | P :: X, e, h, he => by
    unfold stopS at h
    by_cases c : spnE P B ≠ 0 ∨ spnHi P B < 0
    · rw [if_pos c] at h
      injection h with h
      have h0 : spnE P B = 0 := h.trans he
      exact ⟨P, List.mem_cons_self, h0, c.resolve_left (fun k => k h0)⟩
    · rw [if_neg c] at h
      obtain ⟨Q, hQ, q⟩ := stop_zero h he
      exact ⟨Q, List.mem_cons_of_mem _ hQ, q⟩
theorem stop_none {B : Nat → Int} : ∀ {X : List (Nat → Int)}, stopS B X = none → ∀ P ∈ X, spnE P B = 0 ∧ 0 ≤ spnHi P B
  | [], _, P, hP => by cases hP
  | Q :: X, h, P, hP => by
    unfold stopS at h
    by_cases c : spnE Q B ≠ 0 ∨ spnHi Q B < 0
    · rw [if_pos c] at h; cases h
    · rw [if_neg c] at h
      rcases List.mem_cons.1 hP with rfl | hP
      · exact ⟨by by_cases k : spnE P B = 0; exact k; exact absurd (Or.inl k) c, by omega⟩
      · exact stop_none h P hP
theorem see_err {v : Vw} {ly : Int} {B : Nat → Int} (h : (seeT v ly B).2.2 ≠ 0) : (seeT v ly B).2.1 = false := by
  unfold seeT at *
  by_cases h1 : okVw v = true
  · rw [if_pos h1] at h ⊢
    by_cases h2 : bits .and .i64 ly v.m = 0
    · rw [if_pos h2]
    · rw [if_neg h2] at h ⊢
      cases h3 : stopS B v.ps with
      | some e => rfl
      | none =>
        rw [h3] at h
        exact beq_eq_false_iff_ne.2 h
  · rw [if_neg h1]
theorem see_left {v : Vw} {ly : Int} {B V : Nat → Int} (hin : inBox B V = true) (hd : ∀ P ∈ v.ps, disE P V = 0) (he : (seeT v ly B).2.2 = 0) (hb : ∀ P ∈ v.ps, 0 ≤ disV P V) : (seeT v ly B).2.1 = (bits .and .i64 v.m ly != 0) := by
  unfold seeT at *
  by_cases h1 : okVw v = true
  · rw [if_pos h1] at he ⊢
    rw [bits_comm v.m ly]
    by_cases h2 : bits .and .i64 ly v.m = 0
    · rw [if_pos h2, h2]; rfl
    · rw [if_neg h2] at he ⊢
      rw [show (bits .and .i64 ly v.m != 0) = true from bne_iff_ne.2 h2]
      cases h3 : stopS B v.ps with
      | some e =>
        rw [h3] at he
        obtain ⟨P, hP, p0, p1⟩ := stop_zero h3 he
        have := (span_mid hin p0 (hd P hP)).2
        have := hb P hP
        omega
      | none =>
        rw [h3] at he
        exact beq_iff_eq.2 he
  · rw [if_neg h1] at he
    exact absurd he (by decide)
theorem see_deep {v : Vw} {ly : Int} {B V : Nat → Int} (hin : inBox B V = true) (hs : (seeT v ly B).2.1 = true) (hd : disE v.eye V = 0) : (seeT v ly B).1 ≤ disV v.eye V := by
  unfold seeT at *
  by_cases h1 : okVw v = true
  · rw [if_pos h1] at hs ⊢
    by_cases h2 : bits .and .i64 ly v.m = 0
    · rw [if_pos h2] at hs; cases hs
    · rw [if_neg h2] at hs ⊢
      cases h3 : stopS B v.ps with
      | some e => rw [h3] at hs; cases hs
      | none =>
        rw [h3] at hs
        exact (span_mid hin (beq_iff_eq.1 hs) hd).1
  · rw [if_neg h1] at hs; cases hs
def sideP (k : Nat) (n d : Int) : Nat → Int := fun i => if i = k then n else if i = 3 then d else 0
def sidesTo (B : Nat → Int) : Nat → List (Nat → Int)
  | 0 => []
  | k + 1 => sidesTo B k ++ [sideP k 65536 (-(B k)), sideP k (-65536) (B (3 + k))]
def lowB (B : Nat → Int) : Bool := decide (B 0 = -2147483648) || (decide (B 1 = -2147483648) || decide (B 2 = -2147483648))
def boxE (B : Nat → Int) : Int := if okBox B = true then (if lowB B = true then 6 else 0) else 1
def boxL (B : Nat → Int) : List (Nat → Int) := if boxE B = 0 then sidesTo B 3 else []
theorem low_at {B : Nat → Int} {k : Nat} (hk : k < 3) (h : B k = -2147483648) : lowB B = true := by
  unfold lowB
  obtain rfl | rfl | rfl : k = 0 ∨ k = 1 ∨ k = 2 := by omega
  all_goals simp [h]
theorem low_not {B : Nat → Int} (h : ∀ k, k < 3 → B k ≠ -2147483648) : lowB B = false := by
  unfold lowB
  rw [decide_eq_false (h 0 (by omega)), decide_eq_false (h 1 (by omega)), decide_eq_false (h 2 (by omega))]; rfl
theorem sidesTo_len (B : Nat → Int) : ∀ k, (sidesTo B k).length = 2 * k
  | 0 => rfl
  | k + 1 => by unfold sidesTo; rw [List.length_append, sidesTo_len B k]; simp; omega
theorem mulV_zero (c : Int) : mulV 0 c = 0 := by
  unfold mulV
  rw [Int.zero_mul, show (0 : Int) / 65536 = 0 by decide]
  unfold fitV
  split <;> simp
theorem mulV_one {c : Int} (h : mulE 65536 c = 0) : mulV 65536 c = c := by rw [(mul_parts h).2.2.2]; omega
theorem mulV_neg {c : Int} (h : mulE (-65536) c = 0) : mulV (-65536) c = -c := by rw [(mul_parts h).2.2.2]; omega
theorem side_hi {C : Nat → Int} {k : Nat} {n d : Int} (hk : k < 3) (h : spnE (sideP k n d) C = 0) : okBox C = true ∧ spnHi (sideP k n d) C = d + max (mulV n (C k)) (mulV n (C (3 + k))) ∧ mulE n (C k) = 0 ∧ mulE n (C (3 + k)) = 0 := by
  unfold spnE at h
  unfold spnHi
  by_cases c : spnOk (sideP k n d) C = true
  · rw [if_pos c] at h ⊢
    have hc : okBox C = true := by unfold spnOk at c; rw [Bool.and_eq_true] at c; exact c.2
    obtain ⟨h1, _, h3, _, h5⟩ := en_parts h
    have hn : sideP k n d k = n := by unfold sideP; rw [if_pos rfl]
    have q := h1 k hk
    rw [hn] at q
    refine ⟨hc, ?_, q.1, q.2⟩
    rw [h5, (add_parts h3).2.2]
    unfold enHiL enX enY sideP
    obtain rfl | rfl | rfl : k = 0 ∨ k = 1 ∨ k = 2 := by omega
    all_goals simp [mulV_zero]
  · rw [if_neg c] at h
    exact absurd h (by decide)
theorem side_low {C : Nat → Int} {k : Nat} {d : Int} (hk : k < 3) (h : spnE (sideP k 65536 d) C = 0) : spnHi (sideP k 65536 d) C = d + C (3 + k) := by
  obtain ⟨h0, h1, h2, h3⟩ := side_hi hk h
  rw [h1, mulV_one h2, mulV_one h3]
  have := (boxTo_parts h0).2
  obtain rfl | rfl | rfl : k = 0 ∨ k = 1 ∨ k = 2 := by omega
  all_goals simp; omega
theorem side_top {C : Nat → Int} {k : Nat} {d : Int} (hk : k < 3) (h : spnE (sideP k (-65536) d) C = 0) : spnHi (sideP k (-65536) d) C = d - C k := by
  obtain ⟨h0, h1, h2, h3⟩ := side_hi hk h
  rw [h1, mulV_neg h2, mulV_neg h3]
  have := (boxTo_parts h0).2
  obtain rfl | rfl | rfl : k = 0 ∨ k = 1 ∨ k = 2 := by omega
  all_goals simp; omega
def meetK (B C : Nat → Int) (k : Nat) : Bool := decide (max (B k) (C k) ≤ min (B (3 + k)) (C (3 + k)))
def meetB (B C : Nat → Int) : Bool := meetK B C 0 && (meetK B C 1 && meetK B C 2)
theorem meet_bad {B C : Nat → Int} {k : Nat} (hk : k < 3) (h : meetK B C k = false) : meetB B C = false := by
  unfold meetB
  obtain rfl | rfl | rfl : k = 0 ∨ k = 1 ∨ k = 2 := by omega
  all_goals rw [h]; simp
theorem meet_all {B C : Nat → Int} (h : ∀ k, k < 3 → meetK B C k = true) : meetB B C = true := by
  unfold meetB
  rw [h 0 (by omega), h 1 (by omega), h 2 (by omega)]; rfl
theorem meetK_yes {B C : Nat → Int} {k : Nat} (h1 : B k ≤ C (3 + k)) (h2 : C k ≤ B (3 + k)) (h3 : B k ≤ B (3 + k)) (h4 : C k ≤ C (3 + k)) : meetK B C k = true := by
  unfold meetK
  rw [decide_eq_true_eq]
  omega
theorem meetK_no {B C : Nat → Int} {k : Nat} (h : C (3 + k) < B k ∨ B (3 + k) < C k) : meetK B C k = false := by
  unfold meetK
  rw [decide_eq_false_iff_not]
  omega
theorem sides_mem {B P : Nat → Int} : ∀ {n : Nat}, P ∈ sidesTo B n → ∃ k, k < n ∧ (P = sideP k 65536 (-(B k)) ∨ P = sideP k (-65536) (B (3 + k)))
  | 0, h => by cases h
  | n + 1, h => by
    unfold sidesTo at h
    rcases List.mem_append.1 h with h | h
    · obtain ⟨k, hk, q⟩ := sides_mem h
      exact ⟨k, by omega, q⟩
    · refine ⟨n, by omega, ?_⟩
      simpa using h
theorem mem_sides {B : Nat → Int} : ∀ {n k : Nat}, k < n → sideP k 65536 (-(B k)) ∈ sidesTo B n ∧ sideP k (-65536) (B (3 + k)) ∈ sidesTo B n
  | n + 1, k, h => by
    unfold sidesTo
    by_cases e : k = n
    · subst e
      exact ⟨List.mem_append_right _ (by simp), List.mem_append_right _ (by simp)⟩
    · have := mem_sides (B := B) (n := n) (k := k) (by omega)
      exact ⟨List.mem_append_left _ this.1, List.mem_append_left _ this.2⟩
theorem see_box {B C E : Nat → Int} {ly : Int} (hB : okBox B = true) (hl : bits .and .i64 ly 255 ≠ 0) (he : (seeT ⟨sidesTo B 3, E, 255⟩ ly C).2.2 = 0) : (seeT ⟨sidesTo B 3, E, 255⟩ ly C).2.1 = meetB B C := by
  unfold seeT at *
  by_cases h1 : okVw ⟨sidesTo B 3, E, 255⟩ = true
  · rw [if_pos h1] at he ⊢
    rw [if_neg hl] at he ⊢
    have hB2 := (boxTo_parts hB).2
    cases h3 : stopS C (sidesTo B 3) with
    | some e =>
      rw [h3] at he
      obtain ⟨P, hP, p0, p1⟩ := stop_zero h3 he
      obtain ⟨k, hk, rfl | rfl⟩ := sides_mem hP
      · rw [side_low hk p0] at p1
        exact (meet_bad hk (meetK_no (by omega))).symm
      · rw [side_top hk p0] at p1
        exact (meet_bad hk (meetK_no (by omega))).symm
    | none =>
      rw [h3] at he
      have hn := stop_none h3
      have q : meetB B C = true := meet_all fun k hk => by
        have m := mem_sides (B := B) hk
        have a := hn _ m.1
        have b := hn _ m.2
        have hC := (boxTo_parts (side_hi hk a.1).1).2
        have a2 := a.2
        have b2 := b.2
        rw [side_low hk a.1] at a2
        rw [side_top hk b.1] at b2
        refine meetK_yes (by omega) (by omega) ?_ ?_
        · obtain rfl | rfl | rfl : k = 0 ∨ k = 1 ∨ k = 2 := by omega
          all_goals simp; omega
        · obtain rfl | rfl | rfl : k = 0 ∨ k = 1 ∨ k = 2 := by omega
          all_goals simp; omega
      rw [q]
      exact beq_iff_eq.2 he
  · rw [if_neg h1] at he
    exact absurd he (by decide)
theorem pl_cells {w : World} {b o : Nat} {P : Nat → Int} (h : w.rangeAt b o (cPl P)) : w.cell? ⟨b, o, none⟩ = some (.int .i64 (P 0)) ∧ w.cell? ⟨b, o + 1, none⟩ = some (.int .i64 (P 1)) ∧ w.cell? ⟨b, o + 2, none⟩ = some (.int .i64 (P 2)) ∧ w.cell? ⟨b, o + 3, none⟩ = some (.int .i64 (P 3)) := ⟨h 0 _ rfl, h 1 _ rfl, h 2 _ rfl, h 3 _ rfl⟩
theorem take_all {α : Type} {X : List α} {n : Nat} (h : X.length = n) : X.take n = X := List.take_of_length_le (by omega)
set_option maxHeartbeats 2000000 in
theorem shplanes_any (a : Option Addr) (len cap : Nat) (X : List (Nat → Int)) (w : World) (row : PlRow w a len X) :
    Calls Try.prog 23 #[.slice a len cap] w fun e w' => e = .returned (.bool (okPls X)) ∧ Below w.heap.size w w' := by
  have hbig := row.2.1
  have HLn := Lib.hid row.1
  have HRow := Lib.hid row
  clear row
  go_enter Try.func23, Try.ntmps23
  go_wp2
  go_loopw [4, 7] (fun _ i wr => ∃ k : Nat, k ≤ len ∧ i = .int .i64 k ∧ okPls (X.take k) = true ∧ Below w.heap.size w wr) (fun _ i _ => len - (ivl i).toNat)
  case atStart => exact ⟨0, Nat.zero_le _, rfl, rfl, Below.refl _ _⟩
  case round =>
    obtain ⟨k, hk, rfl, hr, hb⟩ := hrel
    have HR := Lib.hid hr
    have HB := Lib.hid hb
    clear hr hb
    by_cases hlt : k < len
    · obtain ⟨b, off, P, rfl, hbl, hx, hv⟩ := HRow.out.at_ hlt
      obtain ⟨m0, m1, m2, m3⟩ := pl_cells (range_same hv (HB.out.block b hbl))
      have HX := Lib.hid hx
      have hz : okPlane P = (ok3 (P 0) (P 1) (P 2) && okB (P 3)) := by unfold okPlane ok3 rightB; simp [Bool.and_assoc]
      clear hv hx hbl
      by_cases h3 : ok3 (P 0) (P 1) (P 2) = true
      · have H3 := Lib.hid ((rightV1 _ _ _).trans h3)
        by_cases h1 : okB (P 3) = true
        · have H1 := Lib.hid (show rightB [P 3] = true by unfold rightB; simp [h1])
          have HG := Lib.hid (show okPlane P = true by rw [hz, h3, h1]; rfl)
          clear h3 h1 hz
          go_wp2_with fail
          refine (vright_b H3.out (vrow1 (blkAt (Blk.new _ _ _) (by simp)))).mono ?_
          rintro e w1 ⟨rfl, b1⟩
          have K1 := Lib.hid ((((Blk.new wr 27 _).alloc _).keep b1))
          have B1 := Lib.hid (bthen (balloc (balloc HB.out _) _) b1)
          clear b1 m0 m1 m2 m3
          obtain ⟨d0, d1, d2, d3⟩ := blk4 K1.out
          have z1 := K1.out.lt
          go_wp2_with fail
          refine (right_b H1.out (row1 w1 (P 3) _)).mono ?_
          rintro e w2 ⟨rfl, rfl⟩
          have B2 := Lib.hid (balloc B1.out (.cells #[.int .i64 (P 3)] 23))
          clear d0 d1 d2 d3 z1
          go_wp2
          go_roundw
          case rel => exact ⟨k + 1, by omega, by go_num, okPls_succ HX.out HR.out HG.out, B2.out⟩
          case measure => simp [ivl] <;> omega
        · have h1' : okB (P 3) = false := by simpa using h1
          have H1 := Lib.hid (show rightB [P 3] = false by unfold rightB; simp [h1'])
          have HG := Lib.hid (show okPlane P = false by rw [hz, h3, h1']; rfl)
          clear h3 h1 h1' hz
          go_wp2_with fail
          refine (vright_b H3.out (vrow1 (blkAt (Blk.new _ _ _) (by simp)))).mono ?_
          rintro e w1 ⟨rfl, b1⟩
          have K1 := Lib.hid ((((Blk.new wr 27 _).alloc _).keep b1))
          have B1 := Lib.hid (bthen (balloc (balloc HB.out _) _) b1)
          clear b1 m0 m1 m2 m3
          obtain ⟨d0, d1, d2, d3⟩ := blk4 K1.out
          have z1 := K1.out.lt
          go_wp2_with fail
          refine (right_b H1.out (row1 w1 (P 3) _)).mono ?_
          rintro e w2 ⟨rfl, rfl⟩
          have B2 := Lib.hid (balloc B1.out (.cells #[.int .i64 (P 3)] 23))
          clear d0 d1 d2 d3 z1
          go_wp2
          go_ret
          exact ⟨by rw [okPls_bad HX.out HG.out]; rfl, B2.out⟩
      · have h3' : ok3 (P 0) (P 1) (P 2) = false := by simpa using h3
        have H3 := Lib.hid ((rightV1 _ _ _).trans h3')
        have HG := Lib.hid (show okPlane P = false by rw [hz, h3']; rfl)
        clear h3 h3' hz
        go_wp2_with fail
        refine (vright_b H3.out (vrow1 (blkAt (Blk.new _ _ _) (by simp)))).mono ?_
        rintro e w1 ⟨rfl, b1⟩
        have B1 := Lib.hid (bthen (balloc (balloc HB.out _) _) b1)
        clear b1 m0 m1 m2 m3
        go_wp2
        go_ret
        exact ⟨by rw [okPls_bad HX.out HG.out]; rfl, B1.out⟩
    · obtain rfl : k = len := by omega
      go_wp2
      go_ret
      exact ⟨by rw [← HR.out, take_all HLn.out]; rfl, HB.out⟩
theorem shplanes_b {a : Option Addr} {len cap : Nat} {X : List (Nat → Int)} {w : World} {b : Bool} (row : PlRow w a len X) (h : okPls X = b) :
    Calls Try.prog 23 #[.slice a len cap] w fun e w' => e = .returned (.bool b) ∧ Below w.heap.size w w' := (shplanes_any a len cap X w row).mono fun _ _ ⟨he, hw⟩ => ⟨by rw [he, h], hw⟩
theorem vblk {w : World} {g : Nat} {t : TypeId} {x0 x1 x2 x3 x4 x5 : Value} (h : Blk w g t #[x0, x1, x2, x3, x4, x5]) : w.cell? ⟨g, 0, none⟩ = some x0 ∧ w.cell? ⟨g, 1, none⟩ = some x1 ∧ w.cell? ⟨g, 2, none⟩ = some x2 ∧ w.cell? ⟨g, 3, none⟩ = some x3 ∧ w.cell? ⟨g, 4, none⟩ = some x4 ∧ w.cell? ⟨g, 5, none⟩ = some x5 ∧ g < w.heap.size := ⟨h.cell 0, h.cell 1, h.cell 2, h.cell 3, h.cell 4, h.cell 5, h.lt⟩
theorem common_any (x y : Int) (w : World) : Calls Try.prog 21 #[.int .i64 x, .int .i64 y] w fun e w' => e = .returned (.bool (bits .and .i64 x y != 0)) ∧ w = w' := by
  obtain ⟨z, hz⟩ : ∃ z, bits .and .i64 x y = z := ⟨_, rfl⟩
  go_enter Try.func21, Try.ntmps21
  go_wp2
  go_ret
  exact ⟨by rw [hz]; rfl, rfl⟩
set_option maxHeartbeats 4000000 in
theorem viwright_any (a : Option Addr) (len cap : Nat) (X : List (Nat → Int)) (E : Nat → Int) (m : Int) (w : World) (row : PlRow w a len X) :
    Calls Try.prog 10 #[.agg #[.slice a len cap, .int .i64 (E 0), .int .i64 (E 1), .int .i64 (E 2), .int .i64 (E 3), .int .i64 m]] w fun e w' => e = .returned (.bool (okVw ⟨X, E, m⟩)) ∧ Below w.heap.size w w' := by
  have hbig := row.2.1
  have HLn := Lib.hid row.1
  have HRow := Lib.hid (row.keep (alloc_below w (.cells #[.slice a len cap, .int .i64 (E 0), .int .i64 (E 1), .int .i64 (E 2), .int .i64 (E 3), .int .i64 m] 29)))
  have HV : Hid (∀ b0 b1 b2 b3 b4 : Bool, decide (len ≤ 8) = b0 → okPls X = b1 → okPlane E = b2 → decide (0 ≤ m) = b3 → decide (m ≤ 255) = b4 → okVw ⟨X, E, m⟩ = (b0 && (b1 && (b2 && (b3 && b4))))) := Lib.hid (fun b0 b1 b2 b3 b4 h0 h1 h2 h3 h4 => by rw [← h0, ← h1, ← h2, ← h3, ← h4, ← row.1]; rfl)
  obtain ⟨b1, hb1⟩ : ∃ b1, okPls X = b1 := ⟨_, rfl⟩
  obtain ⟨b2, hb2⟩ : ∃ b2, okPlane E = b2 := ⟨_, rfl⟩
  have HB1 := Lib.hid hb1
  have HB2 := Lib.hid hb2
  clear row hb1 hb2
  go_enter Try.func10, Try.ntmps10
  by_cases h8 : len ≤ 8
  · have h8' : (len : Int) ≤ 8 := by omega
    have H8 := Lib.hid (decide_eq_true h8)
    clear h8
    go_wp2_with fail
    refine (shplanes_b HRow.out HB1.out).mono ?_
    rintro e w1 ⟨rfl, q1⟩
    have K1 := Lib.hid ((Blk.new w 29 #[.slice a len cap, .int .i64 (E 0), .int .i64 (E 1), .int .i64 (E 2), .int .i64 (E 3), .int .i64 m]).keep q1)
    have B1 := Lib.hid (bthen (alloc_below w (.cells #[.slice a len cap, .int .i64 (E 0), .int .i64 (E 1), .int .i64 (E 2), .int .i64 (E 3), .int .i64 m] 29)) q1)
    clear q1
    obtain ⟨c0, c1, c2, c3, c4, c5, z⟩ := vblk K1.out
    cases b1
    · go_wp2
      go_ret
      exact ⟨by rw [HV.out _ _ _ _ _ H8.out HB1.out rfl rfl rfl]; rfl, B1.out⟩
    · go_wp2_with fail
      refine (shplane_b _ (blkAt (Blk.new _ _ _) (by simp)) HB2.out).mono ?_
      rintro e w2 ⟨rfl, q2⟩
      have K2 := Lib.hid ((K1.out.alloc (.cells #[.int .i64 (E 0), .int .i64 (E 1), .int .i64 (E 2), .int .i64 (E 3)] 27)).keep q2)
      have B2 := Lib.hid (bthen (balloc B1.out (.cells #[.int .i64 (E 0), .int .i64 (E 1), .int .i64 (E 2), .int .i64 (E 3)] 27)) q2)
      clear q2 c0 c1 c2 c3 c4 c5 z K1 B1
      obtain ⟨c0, c1, c2, c3, c4, c5, z⟩ := vblk K2.out
      cases b2
      · go_wp2
        go_ret
        exact ⟨by rw [HV.out _ _ _ _ _ H8.out HB1.out HB2.out rfl rfl]; rfl, B2.out⟩
      · by_cases h0 : 0 ≤ m
        · go_wp2
          go_ret
          exact ⟨by rw [HV.out _ _ _ _ _ H8.out HB1.out HB2.out (decide_eq_true h0) rfl]; rfl, B2.out⟩
        · go_wp2
          go_ret
          exact ⟨by rw [HV.out _ _ _ _ _ H8.out HB1.out HB2.out (decide_eq_false (show ¬ 0 ≤ m by omega)) rfl]; rfl, B2.out⟩
  · have h8' : ¬ (len : Int) ≤ 8 := by omega
    have H8 := Lib.hid (decide_eq_false h8)
    clear h8
    go_wp2
    go_ret
    exact ⟨by rw [HV.out _ _ _ _ _ H8.out HB1.out HB2.out rfl rfl]; rfl, alloc_below _ _⟩
set_option maxHeartbeats 4000000 in
theorem rviwright_any (a : Option Addr) (len cap : Nat) (X : List (Nat → Int)) (E : Nat → Int) (m : Int) (w : World) (row : PlRow w a len X) :
    Calls Try.prog 11 #[.agg #[.slice a len cap, .int .i64 (E 0), .int .i64 (E 1), .int .i64 (E 2), .int .i64 (E 3), .int .i64 m]] w fun e w' => e = .returned (.bool (okVw ⟨X, E, m⟩)) ∧ Below w.heap.size w w' := by
  have hbig := row.2.1
  have HLn := Lib.hid row.1
  have HRow := Lib.hid (row.keep (alloc_below w (.cells #[.slice a len cap, .int .i64 (E 0), .int .i64 (E 1), .int .i64 (E 2), .int .i64 (E 3), .int .i64 m] 29)))
  have HV : Hid (∀ b0 b1 b2 b3 b4 : Bool, decide (len ≤ 8) = b0 → okPls X = b1 → okPlane E = b2 → decide (0 ≤ m) = b3 → decide (m ≤ 255) = b4 → okVw ⟨X, E, m⟩ = (b0 && (b1 && (b2 && (b3 && b4))))) := Lib.hid (fun b0 b1 b2 b3 b4 h0 h1 h2 h3 h4 => by rw [← h0, ← h1, ← h2, ← h3, ← h4, ← row.1]; rfl)
  obtain ⟨b2, hb2⟩ : ∃ b2, okPlane E = b2 := ⟨_, rfl⟩
  have HB2 := Lib.hid hb2
  clear row hb2
  go_enter Try.func11, Try.ntmps11
  go_wp2_with fail
  refine (rplane_b HB2.out _).mono ?_
  rintro e w1 ⟨rfl, q1⟩
  have K1 := Lib.hid ((Blk.new w 29 #[.slice a len cap, .int .i64 (E 0), .int .i64 (E 1), .int .i64 (E 2), .int .i64 (E 3), .int .i64 m]).keep q1)
  have B1 := Lib.hid (bthen (alloc_below w (.cells #[.slice a len cap, .int .i64 (E 0), .int .i64 (E 1), .int .i64 (E 2), .int .i64 (E 3), .int .i64 m] 29)) q1)
  have RwK := Lib.hid (HRow.out.keep q1)
  clear q1 HRow
  obtain ⟨c0, c1, c2, c3, c4, c5, z⟩ := vblk K1.out
  by_cases h8 : 8 < len
  · have h8' : (8 : Int) < (len : Int) := by omega
    go_wp2
    go_ret
    exact ⟨by rw [HV.out _ _ _ _ _ (decide_eq_false (show ¬ len ≤ 8 by omega)) rfl rfl rfl rfl]; rfl, B1.out⟩
  · have h8' : ¬ (8 : Int) < (len : Int) := by omega
    have H8 := Lib.hid (decide_eq_true (show len ≤ 8 by omega))
    by_cases h0 : m < 0
    · go_wp2
      go_ret
      exact ⟨by rw [HV.out _ _ _ _ _ H8.out rfl rfl (decide_eq_false (show ¬ 0 ≤ m by omega)) rfl]; simp, B1.out⟩
    · have H0 := Lib.hid (decide_eq_true (show 0 ≤ m by omega))
      by_cases h1 : 255 < m
      · go_wp2
        go_ret
        exact ⟨by rw [HV.out _ _ _ _ _ H8.out rfl rfl H0.out (decide_eq_false (show ¬ m ≤ 255 by omega))]; simp, B1.out⟩
      · have H1 := Lib.hid (decide_eq_true (show m ≤ 255 by omega))
        cases b2
        · go_wp2
          go_ret
          exact ⟨by rw [HV.out _ _ _ _ _ H8.out rfl HB2.out H0.out H1.out]; simp, B1.out⟩
        · clear h8
          go_wp2
          clear c0 c1 c2 c3 c4 c5 z h8' h0 h1
          go_loopw [4, 5] (fun i _ wr => ∃ k : Nat, k ≤ len ∧ i = .int .i64 k ∧ okPls (X.take k) = true ∧ Below w1.heap.size w1 wr) (fun i _ _ => len - (ivl i).toNat)
          case atStart => exact ⟨0, Nat.zero_le _, rfl, rfl, Below.refl _ _⟩
          case round =>
            obtain ⟨k, hk, rfl, hr, hb⟩ := hrel
            have HR := Lib.hid hr
            have HB := Lib.hid hb
            clear hr hb
            obtain ⟨c0, c1, c2, c3, c4, c5, z⟩ := vblk (K1.out.keep HB.out)
            by_cases hlt : k < len
            · have hk0 : (0 : Int) ≤ (k : Int) := by omega
              have hk1 : (k : Int) < (len : Int) := by omega
              obtain ⟨b, off, P, rfl, hbl, hx, hv⟩ := RwK.out.at_ hlt
              obtain ⟨m0, m1, m2, m3⟩ := pl_cells (range_same hv (HB.out.block b hbl))
              have HX := Lib.hid hx
              obtain ⟨g, hg⟩ : ∃ g, okPlane P = g := ⟨_, rfl⟩
              have HG := Lib.hid hg
              clear hv hx hbl hg
              go_wp2_with fail
              refine (rplane_b HG.out _).mono ?_
              rintro e w2 ⟨rfl, q2⟩
              have B2 := Lib.hid (bthen HB.out q2)
              clear q2 m0 m1 m2 m3 c0 c1 c2 c3 c4 c5 z
              cases g
              · go_wp2
                go_ret
                exact ⟨by rw [HV.out _ _ _ _ _ H8.out (okPls_bad HX.out HG.out) HB2.out H0.out H1.out]; rfl, bthen B1.out B2.out⟩
              · go_wp2
                go_roundw
                case rel => exact ⟨k + 1, by omega, by go_num, okPls_succ HX.out HR.out HG.out, B2.out⟩
                case measure => simp [ivl] <;> omega
            · obtain rfl : k = len := by omega
              go_wp2
              go_ret
              exact ⟨by rw [HV.out _ _ _ _ _ H8.out ((congrArg okPls (take_all HLn.out)).symm.trans HR.out) HB2.out H0.out H1.out]; rfl, bthen B1.out HB.out⟩
def eqPl (P Q : Nat → Int) : Bool := (P 0 == Q 0) && (P 1 == Q 1) && (P 2 == Q 2) && (P 3 == Q 3)
theorem eqPl_self (P : Nat → Int) : eqPl P P = true := by unfold eqPl; simp
def eqPls : List (Nat → Int) → List (Nat → Int) → Bool
  | [], [] => true
  | P :: X, Q :: Y => eqPl P Q && eqPls X Y
  | _, _ => false
theorem eqPls_self : ∀ X : List (Nat → Int), eqPls X X = true
  | [] => rfl
  | P :: X => by unfold eqPls; rw [eqPl_self, eqPls_self X]; rfl
theorem eqPls_len : ∀ {X Y : List (Nat → Int)}, X.length ≠ Y.length → eqPls X Y = false
  | [], [], h => absurd rfl h
  | [], _ :: _, _ => rfl
  | _ :: _, [], _ => rfl
  | P :: X, Q :: Y, h => by
    unfold eqPls
    rw [eqPls_len (X := X) (Y := Y) (by simpa using h), Bool.and_false]
theorem eqPls_at {X Y : List (Nat → Int)} {k : Nat} {P Q : Nat → Int} (hx : X[k]? = some P) (hy : Y[k]? = some Q) : eqPls (X.drop k) (Y.drop k) = (eqPl P Q && eqPls (X.drop (k + 1)) (Y.drop (k + 1))) := by
  rw [drop_at hx, drop_at hy]; rfl
theorem eqPls_end {X Y : List (Nat → Int)} {n : Nat} (hx : X.length = n) (hy : Y.length = n) : eqPls (X.drop n) (Y.drop n) = true := by
  rw [List.drop_of_length_le (by omega), List.drop_of_length_le (by omega)]; rfl
set_option maxHeartbeats 2000000 in
theorem eqPlR (P Q : Nat → Int) (w : World) : (Op.equalIn 10000 27 (.agg #[.int .i64 (P 0), .int .i64 (P 1), .int .i64 (P 2), .int .i64 (P 3)]) (.agg #[.int .i64 (Q 0), .int .i64 (Q 1), .int .i64 (Q 2), .int .i64 (Q 3)])).run Try.prog w = .ok (eqPl P Q) w := by
  have hv := fun w => eqVecR 9997 (P 0) (P 1) (P 2) (Q 0) (Q 1) (Q 2) w
  unfold eqPl
  obtain ⟨p, hp⟩ : ∃ p, p = ((P 0 == Q 0) && (P 1 == Q 1) && (P 2 == Q 2)) := ⟨_, rfl⟩
  rw [← hp] at hv ⊢
  clear hp
  have a3 := Try.isAgg25
  have z3 := Try.sizeOf25
  have u4 := Try.underlying23
  have a4 := Try.isAgg23
  have z4 := Try.sizeOf23
  rw [show (10000 : Nat) = 9997 + 1 + 1 + 1 from rfl, Op.equalIn]
  simp only [Sem.run_bind, run_underlying Try.underlying27, Result.andThen_ok]
  go_simp
  by_cases h : P 3 = Q 3
  · cases p <;> simp [h]
  · cases p <;> simp [h]
set_option maxHeartbeats 4000000 in
theorem equal_any (a : Option Addr) (n cap : Nat) (X : List (Nat → Int)) (a' : Option Addr) (n' cap' : Nat) (Y : List (Nat → Int)) (w : World) (row : PlRow w a n X) (row' : PlRow w a' n' Y) :
    Calls Try.prog 25 #[.slice a n cap, .slice a' n' cap'] w fun e w' => e = .returned (.bool (eqPls X Y)) ∧ Below w.heap.size w w' := by
  have hbig := row.2.1
  have hbig' := row'.2.1
  have HLn := Lib.hid row.1
  have HLn' := Lib.hid row'.1
  have HR := Lib.hid row
  have HR' := Lib.hid row'
  clear row row'
  go_enter Try.func25, Try.ntmps25
  by_cases hn : n = n'
  · subst hn
    have hn0 : (n : Int) = (n : Int) := rfl
    go_wp2
    go_loopw [5, 13] (fun _ i wr => ∃ k : Nat, k ≤ n ∧ i = .int .i64 k ∧ eqPls X Y = eqPls (X.drop k) (Y.drop k) ∧ Below w.heap.size w wr) (fun _ i _ => n - (ivl i).toNat)
    case atStart => exact ⟨0, Nat.zero_le _, rfl, rfl, Below.refl _ _⟩
    case round =>
      obtain ⟨k, hk, rfl, hr, hb⟩ := hrel
      have HE := Lib.hid hr
      have HB := Lib.hid hb
      clear hr hb
      by_cases hlt : k < n
      · have hk0 : (0 : Int) ≤ (k : Int) := by omega
        have hk1 : (k : Int) < (n : Int) := by omega
        obtain ⟨b, off, P, rfl, hbl, hx, hv⟩ := HR.out.at_ hlt
        obtain ⟨b', off', Q, rfl, hbl', hx', hv'⟩ := HR'.out.at_ hlt
        obtain ⟨m0, m1, m2, m3⟩ := pl_cells (range_same hv (HB.out.block b hbl))
        obtain ⟨n0, n1, n2, n3⟩ := pl_cells (range_same hv' (HB.out.block b' hbl'))
        have HS := Lib.hid (eqPls_at hx hx')
        have he := eqPlR P Q
        obtain ⟨t, ht⟩ : ∃ t, t = eqPl P Q := ⟨_, rfl⟩
        rw [← ht] at he HS
        clear hv hx hbl hv' hx' hbl' ht
        cases t
        · go_wp2
          go_quiet (fail)
          go_wp2
          go_ret
          exact ⟨by rw [HE.out, HS.out]; rfl, Go.below_drewN HB.out nq⟩
        · go_wp2
          go_quiet (fail)
          go_wp2
          go_roundw
          case rel => exact ⟨k + 1, by omega, by go_num, by rw [HE.out, HS.out]; rfl, Go.below_drewN HB.out nq⟩
          case measure => simp [ivl] <;> omega
      · obtain rfl : k = n := by omega
        go_wp2
        go_ret
        exact ⟨by rw [HE.out, eqPls_end HLn.out HLn'.out]; rfl, HB.out⟩
  · have hn0 : ¬ (n : Int) = (n' : Int) := by omega
    have HD := Lib.hid (eqPls_len (X := X) (Y := Y) (by rw [HLn.out, HLn'.out]; exact hn))
    go_wp2
    go_ret
    exact ⟨by rw [HD.out]; rfl, Below.refl _ _⟩
theorem equal_b {a : Option Addr} {n cap : Nat} {X : List (Nat → Int)} {a' : Option Addr} {n' cap' : Nat} {Y : List (Nat → Int)} {w : World} {b : Bool} (row : PlRow w a n X) (row' : PlRow w a' n' Y) (h : eqPls X Y = b) :
    Calls Try.prog 25 #[.slice a n cap, .slice a' n' cap'] w fun e w' => e = .returned (.bool b) ∧ Below w.heap.size w w' := (equal_any a n cap X a' n' cap' Y w row row').mono fun _ _ ⟨he, hw⟩ => ⟨by rw [he, h], hw⟩
def sameV (v u : Vw) : Bool := eqPls v.ps u.ps && (eqPl v.eye u.eye && (v.m == u.m))
theorem sameV_self (v : Vw) : sameV v v = true := by unfold sameV; rw [eqPls_self, eqPl_self]; simp
set_option maxHeartbeats 4000000 in
theorem same14_any (a : Option Addr) (n cap : Nat) (X : List (Nat → Int)) (E : Nat → Int) (m : Int) (a' : Option Addr) (n' cap' : Nat) (Y : List (Nat → Int)) (E' : Nat → Int) (m' : Int) (w : World) (row : PlRow w a n X) (row' : PlRow w a' n' Y) :
    Calls Try.prog 12 #[.agg #[.slice a n cap, .int .i64 (E 0), .int .i64 (E 1), .int .i64 (E 2), .int .i64 (E 3), .int .i64 m], .agg #[.slice a' n' cap', .int .i64 (E' 0), .int .i64 (E' 1), .int .i64 (E' 2), .int .i64 (E' 3), .int .i64 m']] w fun e w' => e = .returned (.bool (sameV ⟨X, E, m⟩ ⟨Y, E', m'⟩)) ∧ Below w.heap.size w w' := by
  have hbel := balloc (alloc_below w (.cells #[.slice a n cap, .int .i64 (E 0), .int .i64 (E 1), .int .i64 (E 2), .int .i64 (E 3), .int .i64 m] 29)) (.cells #[.slice a' n' cap', .int .i64 (E' 0), .int .i64 (E' 1), .int .i64 (E' 2), .int .i64 (E' 3), .int .i64 m'] 29)
  have HR := Lib.hid (row.keep hbel)
  have HR' := Lib.hid (row'.keep hbel)
  have HBel := Lib.hid hbel
  obtain ⟨b1, hb1⟩ : ∃ b1, eqPls X Y = b1 := ⟨_, rfl⟩
  have he := eqPlR E E'
  have HV : Hid (sameV ⟨X, E, m⟩ ⟨Y, E', m'⟩ = (eqPls X Y && (eqPl E E' && (m == m')))) := Lib.hid rfl
  obtain ⟨t, ht⟩ : ∃ t, t = eqPl E E' := ⟨_, rfl⟩
  rw [hb1, ← ht] at HV
  rw [← ht] at he
  have HB1 := Lib.hid hb1
  clear row row' hb1 ht hbel
  go_enter Try.func12, Try.ntmps12
  go_wp2_with fail
  refine (equal_b HR.out HR'.out HB1.out).mono ?_
  rintro e w1 ⟨rfl, q1⟩
  obtain ⟨c0, c1, c2, c3, c4, c5, z⟩ := vblk (((Blk.new w 29 #[.slice a n cap, .int .i64 (E 0), .int .i64 (E 1), .int .i64 (E 2), .int .i64 (E 3), .int .i64 m]).alloc (.cells #[.slice a' n' cap', .int .i64 (E' 0), .int .i64 (E' 1), .int .i64 (E' 2), .int .i64 (E' 3), .int .i64 m'] 29)).keep q1)
  obtain ⟨d0, d1, d2, d3, d4, d5, z'⟩ := vblk (blkAt ((Blk.new (w.alloc (.cells #[.slice a n cap, .int .i64 (E 0), .int .i64 (E 1), .int .i64 (E 2), .int .i64 (E 3), .int .i64 m] 29)) 29 #[.slice a' n' cap', .int .i64 (E' 0), .int .i64 (E' 1), .int .i64 (E' 2), .int .i64 (E' 3), .int .i64 m']).keep q1) (g' := w.heap.size + 1) (by simp))
  have B1 := Lib.hid (bthen HBel.out q1)
  clear q1
  cases b1
  · go_wp2
    go_ret
    exact ⟨by rw [HV.out]; rfl, B1.out⟩
  · cases t
    · go_wp2
      go_ret
      exact ⟨by rw [HV.out]; rfl, B1.out⟩
    · by_cases hm : m = m'
      · subst hm
        go_wp2
        go_ret
        exact ⟨by rw [HV.out]; simp, B1.out⟩
      · go_wp2
        go_ret
        exact ⟨by rw [HV.out]; simp, B1.out⟩
set_option maxHeartbeats 4000000 in
theorem rsame14_any (a : Option Addr) (n cap : Nat) (X : List (Nat → Int)) (E : Nat → Int) (m : Int) (a' : Option Addr) (n' cap' : Nat) (Y : List (Nat → Int)) (E' : Nat → Int) (m' : Int) (w : World) (row : PlRow w a n X) (row' : PlRow w a' n' Y) :
    Calls Try.prog 13 #[.agg #[.slice a n cap, .int .i64 (E 0), .int .i64 (E 1), .int .i64 (E 2), .int .i64 (E 3), .int .i64 m], .agg #[.slice a' n' cap', .int .i64 (E' 0), .int .i64 (E' 1), .int .i64 (E' 2), .int .i64 (E' 3), .int .i64 m']] w fun e w' => e = .returned (.bool (sameV ⟨X, E, m⟩ ⟨Y, E', m'⟩)) ∧ Below w.heap.size w w' := by
  have hbig := row.2.1
  have hbig' := row'.2.1
  have hbel := balloc (alloc_below w (.cells #[.slice a n cap, .int .i64 (E 0), .int .i64 (E 1), .int .i64 (E 2), .int .i64 (E 3), .int .i64 m] 29)) (.cells #[.slice a' n' cap', .int .i64 (E' 0), .int .i64 (E' 1), .int .i64 (E' 2), .int .i64 (E' 3), .int .i64 m'] 29)
  have HLn := Lib.hid row.1
  have HLn' := Lib.hid row'.1
  have HR := Lib.hid (row.keep hbel)
  have HR' := Lib.hid (row'.keep hbel)
  have HBel := Lib.hid hbel
  have he := eqPlR E E'
  have HV : Hid (sameV ⟨X, E, m⟩ ⟨Y, E', m'⟩ = (eqPls X Y && (eqPl E E' && (m == m')))) := Lib.hid rfl
  have K := Lib.hid ((Blk.new w 29 #[.slice a n cap, .int .i64 (E 0), .int .i64 (E 1), .int .i64 (E 2), .int .i64 (E 3), .int .i64 m]).alloc (.cells #[.slice a' n' cap', .int .i64 (E' 0), .int .i64 (E' 1), .int .i64 (E' 2), .int .i64 (E' 3), .int .i64 m'] 29))
  have K' := Lib.hid (blkAt (Blk.new (w.alloc (.cells #[.slice a n cap, .int .i64 (E 0), .int .i64 (E 1), .int .i64 (E 2), .int .i64 (E 3), .int .i64 m] 29)) 29 #[.slice a' n' cap', .int .i64 (E' 0), .int .i64 (E' 1), .int .i64 (E' 2), .int .i64 (E' 3), .int .i64 m']) (g' := w.heap.size + 1) (by simp))
  obtain ⟨t, ht⟩ : ∃ t, t = eqPl E E' := ⟨_, rfl⟩
  rw [← ht] at he HV
  clear row row' ht hbel
  go_enter Try.func13, Try.ntmps13
  by_cases hn : n = n'
  · subst hn
    have hn0 : (n : Int) = (n : Int) := rfl
    cases t
    · go_wp2
      go_ret
      exact ⟨by rw [HV.out]; simp, HBel.out⟩
    · by_cases hm : m = m'
      · subst hm
        go_wp2
        go_loopw [5] (fun i wr => ∃ k : Nat, k ≤ n ∧ i = .int .i64 k ∧ eqPls X Y = eqPls (X.drop k) (Y.drop k) ∧ Below ((w.alloc (.cells #[.slice a n cap, .int .i64 (E 0), .int .i64 (E 1), .int .i64 (E 2), .int .i64 (E 3), .int .i64 m] 29)).alloc (.cells #[.slice a' n cap', .int .i64 (E' 0), .int .i64 (E' 1), .int .i64 (E' 2), .int .i64 (E' 3), .int .i64 m] 29)).heap.size ((w.alloc (.cells #[.slice a n cap, .int .i64 (E 0), .int .i64 (E 1), .int .i64 (E 2), .int .i64 (E 3), .int .i64 m] 29)).alloc (.cells #[.slice a' n cap', .int .i64 (E' 0), .int .i64 (E' 1), .int .i64 (E' 2), .int .i64 (E' 3), .int .i64 m] 29)) wr) (fun i _ => n - (ivl i).toNat)
        case atStart => exact ⟨0, Nat.zero_le _, rfl, rfl, Below.refl _ _⟩
        case round =>
          obtain ⟨k, hk, rfl, hr, hb⟩ := hrel
          have HE := Lib.hid hr
          have HB := Lib.hid hb
          clear hr hb
          obtain ⟨c0, c1, c2, c3, c4, c5, z⟩ := vblk (K.out.keep HB.out)
          obtain ⟨d0, d1, d2, d3, d4, d5, z'⟩ := vblk (K'.out.keep HB.out)
          by_cases hlt : k < n
          · have hk0 : (0 : Int) ≤ (k : Int) := by omega
            have hk1 : (k : Int) < (n : Int) := by omega
            obtain ⟨b, off, P, rfl, hbl, hx, hv⟩ := HR.out.at_ hlt
            obtain ⟨b', off', Q, rfl, hbl', hx', hv'⟩ := HR'.out.at_ hlt
            obtain ⟨m0, m1, m2, m3⟩ := pl_cells (range_same hv (HB.out.block b hbl))
            obtain ⟨n0, n1, n2, n3⟩ := pl_cells (range_same hv' (HB.out.block b' hbl'))
            have HS := Lib.hid (eqPls_at hx hx')
            have he' := eqPlR P Q
            obtain ⟨t, ht⟩ : ∃ t, t = eqPl P Q := ⟨_, rfl⟩
            rw [← ht] at he' HS
            clear hv hx hbl hv' hx' hbl' ht he
            cases t
            · go_wp2
              go_quiet (fail)
              go_wp2
              go_ret
              exact ⟨by rw [HV.out, HE.out, HS.out]; rfl, Go.below_drewN (bthen HBel.out HB.out) nq⟩
            · go_wp2
              go_quiet (fail)
              go_wp2
              go_roundw
              case rel => exact ⟨k + 1, by omega, by go_num, by rw [HE.out, HS.out]; rfl, Go.below_drewN HB.out nq⟩
              case measure => simp [ivl] <;> omega
          · obtain rfl : k = n := by omega
            go_wp2
            go_ret
            exact ⟨by rw [HV.out, HE.out, eqPls_end HLn.out HLn'.out]; simp, bthen HBel.out HB.out⟩
      · go_wp2
        go_ret
        exact ⟨by rw [HV.out]; simp [hm], HBel.out⟩
  · have hn0 : ¬ (n : Int) = (n' : Int) := by omega
    have HD := Lib.hid (eqPls_len (X := X) (Y := Y) (by rw [HLn.out, HLn'.out]; exact hn))
    go_wp2
    go_ret
    exact ⟨by rw [HV.out, HD.out]; rfl, HBel.out⟩
end Go.Proofs.Ytiognhmjadiooaa
