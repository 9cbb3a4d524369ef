/-
  4 texts in one file, each with its own heading.
-/
import Derived.Test.YtdndafdninnjfaaGreatRows
import Derived.Test.YtdndafdninnjfaaGreatMFrg
import Derived.WalkKit
import Derived.ProofKit
import Derived.OpenShut
import Derived.ShutString
import Derived.ChangeOld
import Derived.Below
import Derived.Deep.Slices
import Derived.Laws.IdiomArrays
import Derived.Test.YtdndafdninnjfaaGreatMQFlrD
import Derived.Deep.QuietTactic
/-
  The acts of layer 10 that came in, opened.
-/
namespace Go.Proofs.YtdndafdninnjfaaGreat
open Go.ChangeShapes Go.WideShapes Go.ChangeAt Go.RowKit Go.Deep
set_option linter.unusedVariables false

theorem rg_wf {x : Int} (h : (Lit.int .i64 x).wf = true) : Rg x := by
  have h2 : (decide (IntKind.i64.min ≤ x) && decide (x ≤ IntKind.i64.max)) = true := h
  rw [Bool.and_eq_true, decide_eq_true_eq, decide_eq_true_eq] at h2
  exact h2
instance : Inhabited A10 := ⟨⟨0, none, 0, 0, [], none, 0, 0, []⟩⟩
section
variable {H : Type} {enc : TypeId × Value → H} {w : World} {base : Nat} {held : Bool}
theorem open_ids10 {fuel : Nat} {cs : List Value} {x : DataW H × List MemPlace} (h : DataW.trod enc Tryz.prog w base (fun _ => true) held fuel 24 cs = some x) : ∃ a len cap zs, cs = [.slice a len cap] ∧ Row w a len zs ∧ Rgs zs := by
  rcases open_ints Tryz.underlying24 Tryz.underlying41 (by kernel_rfl) h with ⟨hcs, _⟩ | ⟨ad, l, c, zs, hcs, _, hl, hm, hz, _, hcell, hwz⟩
  · exact ⟨none, 0, 0, [], hcs, ⟨rfl, by omega, .inl rfl⟩, fun x hx => by cases hx⟩
  · unfold maxLen at hm
    simp only [if_true] at hz
    refine ⟨some ad, l, c, zs.take l, hcs, ⟨by rw [List.length_take]; omega, by omega, ?_⟩, fun x hx => rg_wf (hwz x (List.mem_of_mem_take hx))⟩
    by_cases h0 : l = 0
    · exact .inl h0
    · obtain ⟨b, off, spot⟩ := ad
      have hspot : spot = none := by simpa [Addr.add] using World.cell?_spot (hcell 0 (by omega))
      subst hspot
      refine .inr ⟨b, off, rfl, fun i hi => ?_⟩
      have := hcell i (by omega)
      rw [Addr.add_mid] at this
      rw [this]
      simp [hi]
theorem take1_at10 {cs : List Value} {i : Nat} {v : Value} (h : (cs.drop i).take 1 = [v]) : cs[i]? = some v := by
  have e := congrArg (fun l => l[0]?) h
  simpa using e
theorem open_mat10 {fuel : Nat} {cs : List Value} {x : DataW H × List MemPlace} (hl : cs.length = 12) (h : DataW.trod enc Tryz.prog w base (fun _ => true) held fuel 46 cs = some x) : ∃ M : Nat → Int, cs = lM M := by
  obtain ⟨xs, m, _, _, _, hxl, hx⟩ := DataW.trod_array Tryz.underlying46 h
  rw [show Tryz.prog.cellsOf 44 = 1 by kernel_rfl] at hx
  obtain ⟨M, hM⟩ := choose_lt (α := Int) (n := 12) (p := fun i v => cs[i]? = some (.int .i64 v)) (fun i hi => by
    have e0 : xs[i]? = some (xs[i]'(by omega)) := List.getElem?_eq_getElem (by omega)
    obtain ⟨v, ev, _, wv⟩ := DataW.trod_int Tryz.underlying44 ((hx i hi).trans e0)
    rw [Nat.mul_one] at ev
    exact ⟨v, take1_at10 ev⟩)
  refine ⟨M, ?_⟩
  match cs, hl with
  | [c0, c1, c2, c3, c4, c5, c6, c7, c8, c9, c10, c11], _ =>
    have h0 := hM 0 (by omega)
    have h1 := hM 1 (by omega)
    have h2 := hM 2 (by omega)
    have h3 := hM 3 (by omega)
    have h4 := hM 4 (by omega)
    have h5 := hM 5 (by omega)
    have h6 := hM 6 (by omega)
    have h7 := hM 7 (by omega)
    have h8 := hM 8 (by omega)
    have h9 := hM 9 (by omega)
    have h10 := hM 10 (by omega)
    have h11 := hM 11 (by omega)
    simp at h0 h1 h2 h3 h4 h5 h6 h7 h8 h9 h10 h11
    rw [h0, h1, h2, h3, h4, h5, h6, h7, h8, h9, h10, h11]
    rfl
theorem node_open10 {fuel : Nat} {cs : List Value} {x : DataW H × List MemPlace} (hl : cs.length = 15) (h : DataW.trod enc Tryz.prog w base (fun _ => true) held fuel 59 cs = some x) : ∃ n : Nd, cs = cNd n ∧ Rg n.id ∧ Rg n.par := by
  obtain ⟨xs, n, _, _, _, hxl, hx⟩ := DataW.trod_struct Tryz.underlying59 h
  have hxl2 : xs.length = 4 := hxl
  have hc0 : Tryz.prog.cellsOf 41 = 1 := by kernel_rfl
  have f0 : DataW.trod enc Tryz.prog w base (fun _ => true) held n 41 ((cs.drop 0).take 1) = some (xs[0]'(by omega)) := by
    have := (hx 0 _ rfl).trans (List.getElem?_eq_getElem (show 0 < xs.length by omega))
    exact (congrArg (fun c => DataW.trod enc Tryz.prog w base (fun _ => true) held n 41 ((cs.drop 0).take c)) hc0.symm).trans this
  have f1 : DataW.trod enc Tryz.prog w base (fun _ => true) held n 41 ((cs.drop 1).take 1) = some (xs[1]'(by omega)) := by
    have := (hx 1 _ rfl).trans (List.getElem?_eq_getElem (show 1 < xs.length by omega))
    exact (congrArg (fun c => DataW.trod enc Tryz.prog w base (fun _ => true) held n 41 ((cs.drop 1).take c)) hc0.symm).trans this
  have hc2 : Tryz.prog.cellsOf 46 = 12 := by kernel_rfl
  have f2 : DataW.trod enc Tryz.prog w base (fun _ => true) held n 46 ((cs.drop 2).take 12) = some (xs[2]'(by omega)) := by
    have := (hx 2 _ rfl).trans (List.getElem?_eq_getElem (show 2 < xs.length by omega))
    exact (congrArg (fun c => DataW.trod enc Tryz.prog w base (fun _ => true) held n 46 ((cs.drop 2).take c)) hc2.symm).trans this
  have hc3 : Tryz.prog.cellsOf 4 = 1 := by kernel_rfl
  have f3 : DataW.trod enc Tryz.prog w base (fun _ => true) held n 4 ((cs.drop 14).take 1) = some (xs[3]'(by omega)) := by
    have := (hx 3 _ rfl).trans (List.getElem?_eq_getElem (show 3 < xs.length by omega))
    exact (congrArg (fun c => DataW.trod enc Tryz.prog w base (fun _ => true) held n 4 ((cs.drop 14).take c)) hc3.symm).trans this
  obtain ⟨v0, e0, _, w0⟩ := DataW.trod_int Tryz.underlying41 f0
  obtain ⟨v1, e1, _, w1⟩ := DataW.trod_int Tryz.underlying41 f1
  obtain ⟨M, hM⟩ := open_mat10 (by rw [List.length_take, List.length_drop]; omega) f2
  obtain ⟨v3, e3, _⟩ := DataW.trod_bool Tryz.underlying4 f3
  refine ⟨⟨v0, v1, M, v3⟩, ?_, rg_wf w0, rg_wf w1⟩
  have d0 : cs = (cs.drop 0).take 1 ++ ((cs.drop 1).take 1 ++ ((cs.drop 2).take 12 ++ (cs.drop 14).take 1)) := by
    have a5 : (cs.drop 14).take 1 = cs.drop 14 := List.take_of_length_le (by rw [List.length_drop]; omega)
    have st : ∀ o k, (cs.drop o).take k ++ cs.drop (o + k) = cs.drop o := fun o k => by
      have := List.take_append_drop k (cs.drop o)
      rwa [List.drop_drop] at this
    rw [a5, st 2 12, st 1 1, st 0 1, List.drop_zero]
  rw [d0, e0, e1, hM, e3]
  rfl
theorem open_nodes10 {fuel : Nat} {cs : List Value} {x : DataW H × List MemPlace} (h : DataW.trod enc Tryz.prog w base (fun _ => true) held fuel 23 cs = some x) : ∃ a len cap l, cs = [.slice a len cap] ∧ NRow w a len l ∧ rgN l := by
  rcases open_slice Tryz.underlying23 h with ⟨hcs, _⟩ | ⟨ad, len, c, m, n, D, Pl, hcs, _, hlc, hm, hmm, _, hi⟩
  · exact ⟨none, 0, 0, [], hcs, ⟨rfl, by omega, .inl rfl⟩, fun x hx => by cases hx⟩
  · unfold maxLen at hm
    have hC : Tryz.prog.cellsOf 59 = 15 := by kernel_rfl
    rw [hC] at hi
    simp only [if_true] at hmm
    subst hmm
    obtain ⟨V, hV⟩ := choose_lt (α := Nd) (n := len) (p := fun i x => (∀ j v, (cNd x)[j]? = some v → w.cell? ((ad.add (i * 15)).add j) = some v) ∧ Rg x.id ∧ Rg x.par) (fun i hil => by
      obtain ⟨cs', hc, ht⟩ := hi i (by omega)
      obtain ⟨_, hlen, hat⟩ := World.cells?_some hc
      obtain ⟨x, hx, hb⟩ := node_open10 hlen ht
      refine ⟨x, fun j v hv => ?_, hb⟩
      have hj : j < 15 := by have := (List.getElem?_eq_some_iff.1 hv).1; rw [cNd_len] at this; exact this
      rw [hat j hj, hx]
      exact hv)
    refine ⟨some ad, len, _, (List.range len).map V, hcs, ⟨by simp, by omega, ?_⟩, fun x hx => ?_⟩
    · by_cases h0 : len = 0
      · exact .inl h0
      · obtain ⟨b, off, spot⟩ := ad
        have c0 := (hV 0 (by omega)).1 0 _ rfl
        have hspot : spot = none := by simpa [Addr.add] using World.cell?_spot c0
        subst hspot
        have hb : b < w.heap.size := by
          have := World.block_lt_of_cell? _ _ c0
          simpa [add_plain] using this
        refine .inr ⟨b, off, rfl, hb, fun i x hx => ?_⟩
        have hil : i < len := by have := (List.getElem?_eq_some_iff.1 hx).1; simpa using this
        have e : V i = x := by
          rw [List.getElem?_map, List.getElem?_range hil] at hx
          simpa using hx
        rw [← e]
        intro j v hv
        have := (hV i hil).1 j v hv
        simpa only [add_plain] using this
    · obtain ⟨i, hi2, e⟩ := List.mem_map.1 hx
      rw [← e]
      exact (hV i (List.mem_range.1 hi2)).2
theorem act_open10 {fuel : Nat} {cs : List Value} {x : DataW H × List MemPlace} (hl : cs.length = 3) (h : DataW.trod enc Tryz.prog w base (fun _ => true) held fuel 36 cs = some x) : ∃ a : A10, cs = c10 a ∧ ok10 w a := by
  obtain ⟨xs, n, _, _, _, hxl, hx⟩ := DataW.trod_struct Tryz.underlying36 h
  have hxl2 : xs.length = 3 := hxl
  have hc0 : Tryz.prog.cellsOf 5 = 1 := by kernel_rfl
  have f0 : DataW.trod enc Tryz.prog w base (fun _ => true) held n 5 ((cs.drop 0).take 1) = some (xs[0]'(by omega)) := by
    have := (hx 0 _ rfl).trans (List.getElem?_eq_getElem (show 0 < xs.length by omega))
    exact (congrArg (fun c => DataW.trod enc Tryz.prog w base (fun _ => true) held n 5 ((cs.drop 0).take c)) hc0.symm).trans this
  have hc1 : Tryz.prog.cellsOf 23 = 1 := by kernel_rfl
  have f1 : DataW.trod enc Tryz.prog w base (fun _ => true) held n 23 ((cs.drop 1).take 1) = some (xs[1]'(by omega)) := by
    have := (hx 1 _ rfl).trans (List.getElem?_eq_getElem (show 1 < xs.length by omega))
    exact (congrArg (fun c => DataW.trod enc Tryz.prog w base (fun _ => true) held n 23 ((cs.drop 1).take c)) hc1.symm).trans this
  have hc2 : Tryz.prog.cellsOf 24 = 1 := by kernel_rfl
  have f2 : DataW.trod enc Tryz.prog w base (fun _ => true) held n 24 ((cs.drop 2).take 1) = some (xs[2]'(by omega)) := by
    have := (hx 2 _ rfl).trans (List.getElem?_eq_getElem (show 2 < xs.length by omega))
    exact (congrArg (fun c => DataW.trod enc Tryz.prog w base (fun _ => true) held n 24 ((cs.drop 2).take c)) hc2.symm).trans this
  obtain ⟨v0, e0, _, w0⟩ := DataW.trod_int Tryz.underlying5 f0
  obtain ⟨na, nl, nc, ns, e1, hrow1, hrg1⟩ := open_nodes10 f1
  obtain ⟨ka, kl, kc, ks, e2, hrow, hrg⟩ := open_ids10 f2
  refine ⟨⟨v0, na, nl, nc, ns, ka, kl, kc, ks⟩, ?_, (bounds_u8 w0).1, (bounds_u8 w0).2, ⟨hrow1, hrg1⟩, hrow, hrg⟩
  have d0 : cs = (cs.drop 0).take 1 ++ ((cs.drop 1).take 1 ++ (cs.drop 2).take 1) := by
    have a5 : (cs.drop 2).take 1 = cs.drop 2 := List.take_of_length_le (by rw [List.length_drop]; omega)
    have st : ∀ o k, (cs.drop o).take k ++ cs.drop (o + k) = cs.drop o := fun o k => by
      have := List.take_append_drop k (cs.drop o)
      rwa [List.drop_drop] at this
    rw [a5, st 1 1, st 0 1, List.drop_zero]
  rw [d0, e0, e1, e2]
  rfl
theorem open_acts10 {fuel : Nat} {a : Option Addr} {len cap : Nat} {x : DataW H × List MemPlace} (h : DataW.trod enc Tryz.prog w base (fun _ => true) held fuel 22 [.slice a len cap] = some x) : ∃ As, ARow10 w a len As := by
  rcases open_slice Tryz.underlying22 h with ⟨hcs, _⟩ | ⟨ad, l, c, m, n, D, Pl, hcs, _, hlc, hm, hmm, _, hi⟩
  · simp at hcs
    obtain ⟨rfl, rfl, rfl⟩ := hcs
    exact ⟨[], rfl, by omega, .inl rfl⟩
  · simp at hcs
    obtain ⟨rfl, rfl, rfl⟩ := hcs
    unfold maxLen at hm
    have hC : Tryz.prog.cellsOf 36 = 3 := by kernel_rfl
    rw [hC] at hi
    simp only [if_true] at hmm
    subst hmm
    obtain ⟨V, hV⟩ := choose_lt (α := A10) (n := len) (p := fun i x => (∀ j v, (c10 x)[j]? = some v → w.cell? ((ad.add (i * 3)).add j) = some v) ∧ ok10 w x) (fun i hil => by
      obtain ⟨cs', hc, ht⟩ := hi i (by omega)
      obtain ⟨_, hlen, hat⟩ := World.cells?_some hc
      obtain ⟨x, hx, hb⟩ := act_open10 hlen ht
      refine ⟨x, fun j v hv => ?_, hb⟩
      have hj : j < 3 := by have := (List.getElem?_eq_some_iff.1 hv).1; rw [c10_len] at this; exact this
      rw [hat j hj, hx]
      exact hv)
    refine ⟨(List.range len).map V, by simp, by omega, ?_⟩
    by_cases h0 : len = 0
    · exact .inl h0
    · obtain ⟨b, off, spot⟩ := ad
      have c0 := (hV 0 (by omega)).1 0 _ rfl
      have hspot : spot = none := by simpa [Addr.add] using World.cell?_spot c0
      subst hspot
      have hb : b < w.heap.size := by
        have := World.block_lt_of_cell? _ _ c0
        simpa [add_plain] using this
      refine .inr ⟨b, off, rfl, hb, fun i x hx => ?_⟩
      have hil : i < len := by have := (List.getElem?_eq_some_iff.1 hx).1; simpa using this
      have e : V i = x := by
        rw [List.getElem?_map, List.getElem?_range hil] at hx
        simpa using hx
      rw [← e]
      refine ⟨fun j v hv => ?_, (hV i hil).2⟩
      have := (hV i hil).1 j v hv
      simpa only [add_plain] using this
end
end Go.Proofs.YtdndafdninnjfaaGreat
/-
  FlowAnew for any package that answers as the bundle says: the walk.
-/
namespace Go.Proofs.YtdndafdninnjfaaGreat
open Go.RowKit

/-! behind a run -/
theorem touch_run {D : FD} (h : runE D = 0) : touchN (runD D) = [] := by
  have hb : (runD D).begun = true := decide_eq_true h
  unfold touchN dirtyN
  rw [if_pos hb]
  rfl
section
variable {FB : World → Nat → (Nat → Prop) → FD → Prop}
end
end Go.Proofs.YtdndafdninnjfaaGreat
/-
  FlowOnly for any package that answers as the bundle says: the walk.
-/
namespace Go.Proofs.YtdndafdninnjfaaGreat
open Go.RowKit

/-! who is touched -/
theorem on_step {D : FD} (hD : DOk D) {y cur : Int} (h : cur = y ∨ y ∈ abv (treesN D.L) cur) (hne : cur ≠ y) : 0 ≤ hangs D.L cur ∧ (hangs D.L cur = y ∨ y ∈ abv (treesN D.L) (hangs D.L cur)) ∧ (abv (treesN D.L) (hangs D.L cur)).length + 1 = (abv (treesN D.L) cur).length := by
  have hm := h.resolve_left hne
  by_cases c : 0 ≤ hangs D.L cur
  · have e := abv_some hD.wf (show parO (treesN D.L) cur = some (hangs D.L cur) by rw [par_trees hD.nod, if_pos c])
    rw [e] at hm
    refine ⟨c, (List.mem_cons.1 hm).imp_left Eq.symm, ?_⟩
    rw [e]
    rfl
  · have e := abv_none hD.wf (show parO (treesN D.L) cur = none by rw [par_trees hD.nod, if_neg c])
    rw [e] at hm
    cases hm
theorem node_nn {D : FD} (hD : DOk D) {x : Int} (h : (elF Nd.id D.L x).isSome = true) : 0 ≤ x ∧ Rg x := by
  obtain ⟨n, hn, e⟩ := el_isSome.1 h
  rw [← e]
  exact ⟨hD.nn n hn, (hD.rg n hn).1⟩
theorem touch_up {D : FD} (hD : DOk D) (hb : D.begun = true) {x : Int} (h : x ∈ touchN D) : 0 ≤ x ∧ ∃ y ∈ D.dirty, x = y ∨ y ∈ abv (treesN D.L) x := by
  obtain ⟨y, hy, hxy⟩ := (mem_touch hD.wf).1 h
  exact ⟨(node_nn hD (touch_node hD.wf h)).1, y, ((mem_dirty hb).1 hy).1, hxy⟩
theorem put_same (D : FD) (l : List Nd) : (putFD D l).begun = D.begun ∧ (putFD D l).sts = D.sts := by
  unfold putFD
  split <;> exact ⟨rfl, rfl⟩
theorem drop_same (D : FD) (x : Int) : (dropFD D x).begun = D.begun ∧ (dropFD D x).sts = D.sts := by
  unfold dropFD
  split <;> exact ⟨rfl, rfl⟩
theorem drops_same : ∀ (xs : List Int) (D : FD), (dropS D xs).begun = D.begun ∧ (dropS D xs).sts = D.sts
  | [], _ => ⟨rfl, rfl⟩
  | x :: xs, D => by
    obtain ⟨a1, a2⟩ := drops_same xs (dropFD D x)
    obtain ⟨b1, b2⟩ := drop_same D x
    exact ⟨a1.trans b1, a2.trans b2⟩
/-- a told state: whose it is -/
theorem told_fate {D : FD} (hD : DOk D) (h : runE D = 0) {st : Stt} (hs : st ∈ (runD D).sts) : fate D.L st.id = (some st, 0) ∧ (elF Nd.id D.L st.id).isSome = true ∧ elF Stt.id (runD D).sts st.id = some st := by
  have e1 : (runD D).sts = (allN D.L).out := by show (if runE D = 0 then _ else _) = _; rw [if_pos h]
  have hs0 := hs
  rw [e1, all_out hD.nod hD.wf hD.nn] at hs0
  obtain ⟨y, _, hy⟩ := List.mem_filterMap.1 hs0
  obtain ⟨k1, k2, k3⟩ := fate_id hy
  rw [← k1] at hy k2 k3
  have hb : (runD D).begun = true := decide_eq_true h
  obtain ⟨s, f1, f2⟩ := hD.run.st hb st.id k3 (by rw [touch_run h]; exact List.not_mem_nil)
  have f1' : fate D.L st.id = (some s, 0) := f1
  rw [f1'] at hy
  injection hy with hy
  subst hy
  exact ⟨f1', k3, f2⟩
theorem told_same {D D3 : FD} (hD : DOk D) (h : runE D = 0) (hD3 : DOk D3) (hb3 : D3.begun = true) (hs3 : D3.sts = (runD D).sts) (h3 : runE D3 = 0) {st : Stt} (hs : st ∈ (runD D).sts) (hi : (stateN (runD D3) st.id).isSome = true) (hnt : st.id ∉ touchN D3) : stateN (runD D3) st.id = some st := by
  obtain ⟨_, _, e1⟩ := told_fate hD h hs
  have hb : (runD D3).begun = true := decide_eq_true h3
  have ht : st.id ∉ touchN (runD D3) := by rw [touch_run h3]; exact List.not_mem_nil
  have hx : (elF Nd.id D3.L st.id).isSome = true := by
    by_cases c : (elF Nd.id D3.L st.id).isSome = true
    · exact c
    · unfold stateN at hi
      rw [if_neg (fun q => c q.2.2)] at hi
      cases hi
  obtain ⟨s1, f1, g1⟩ := hD3.st hb3 st.id hx hnt
  obtain ⟨s2, f2, g2⟩ := hD3.run.st hb st.id hx ht
  have f2' : fate D3.L st.id = (some s2, 0) := f2
  rw [f1] at f2'
  injection f2' with f2' _
  injection f2' with f2'
  rw [hs3, e1] at g1
  injection g1 with g1
  unfold stateN
  rw [if_pos ⟨hb, ht, hx⟩, g2, ← f2', ← g1]
theorem quiet_load {ops : Array Oper} {C : World → Prop} {Q : Go.Act → Prop} {op : Oper} {rest : List Oper} {a : Go.Act} (hw : Region.wanted op (yielded ops a.tmps) = true) (ty : TypeId) (x : Operand) (ho : op.op = .load ty x)
    (b o : Nat) (hx : a.eval x = .pointer (some ⟨b, o, none⟩)) (cs : List Value) (d : TypeDesc) (hS : ∀ w, C w → w.rangeAt b o cs)
    (hu : Tryz.prog.underlying ty = some d) (hd : d.isRow = true) (hi : (Tryz.prog.info? ty).map (·.size) = some cs.length) (h : wpQuiet Tryz.prog ops C Q rest (a.put op.dst (.agg cs.toArray))) : wpQuiet Tryz.prog ops C Q (op :: rest) a := by
  unfold wpQuiet
  rw [if_pos hw]
  refine ⟨_, fun w hw' => ?_, h⟩
  have hy := (yieldsIf_load_mid (P := Tryz.prog) (S := C) hw ty x ho b o hx cs d hS hu hd hi).resolve_right (fun c => by rw [hw] at c; cases c.1)
  unfold Oper.quietAt
  rw [hy.2 w hw']
  exact ⟨rfl, rfl⟩
section
variable {FB : World → Nat → (Nat → Prop) → FD → Prop}
set_option maxHeartbeats 16000000 in
set_option maxRecDepth 100000 in
theorem only10_few (hC : FWC FB) (hK : KB10 FB) (hRC : RunCap FB) (a : Option Addr) (len cap : Nat) (As : List A10) (ma : Option Addr) (mn mcap : Nat) (ml : List Nd) (ga : Option Addr) (gn gcap : Nat) (gids : List Int) (w : World) (row : ARow10 w a len As) (mrow : NRow w ma mn ml) (mrg : rgN ml) (grow : Row w ga gn gids) (grg : Rgs gids) :
    Calls Tryz.prog 3 #[.slice a len cap, .slice ma mn mcap, .slice ga gn gcap] w fun e w' => e = .returned (.bool true) ∧ Below w.heap.size w w' := by
  have HFits := Lib.hid (fits10_any a len cap As w row)
  have HAlive := Lib.hid (alive10_any hC)
  have HRow := Lib.hid row
  have HMr := Lib.hid (And.intro mrow mrg)
  have HGr := Lib.hid (And.intro grow grg)
  have hbig := row.2.1
  have hmbig := mrow.2.1
  have hgbig := grow.2.1
  have HNew := Lib.hid hC.new
  clear row mrow mrg grow grg
  go_enter Tryz.func3, Tryz.ntmps3
  go_wp2_with fail
  refine HFits.out.mono ?_
  rintro e w1 ⟨fb, rfl, hfit, hb1⟩
  have HFit := Lib.hid hfit
  have HB1 := Lib.hid hb1
  clear hfit hb1 HFits
  have HNo : fb = false ∨ fb = true ∧ (30 : Int) < (mn : Int) ∨ fb = true ∧ ¬ (30 : Int) < (mn : Int) ∧ (30 : Int) < (gn : Int) ∨ fb = true ∧ ¬ (30 : Int) < (mn : Int) ∧ ¬ (30 : Int) < (gn : Int) := by
    cases fb
    · exact Or.inl rfl
    · by_cases q1 : (30 : Int) < (mn : Int)
      · exact Or.inr (Or.inl ⟨rfl, q1⟩)
      · by_cases q2 : (30 : Int) < (gn : Int)
        · exact Or.inr (Or.inr (Or.inl ⟨rfl, q1, q2⟩))
        · exact Or.inr (Or.inr (Or.inr ⟨rfl, q1, q2⟩))
  rcases HNo with rfl | ⟨rfl, q1⟩ | ⟨rfl, q1, q2⟩ | ⟨rfl, q1, q2⟩
  iterate 3
    · go_wp2_with fail
      refine (HAlive.out _).mono ?_
      rintro e w2 ⟨rfl, hb⟩
      have HB := Lib.hid (bthen HB1.out hb)
      clear hb
      go_wp2
      go_ret
      exact ⟨rfl, HB.out⟩
  · obtain ⟨hlen, hall⟩ := HFit.out rfl
    have HAll := Lib.hid hall
    clear hall HFit
    go_wp2_with fail
    refine (HNew.out w1).mono ?_
    rintro e w2 ⟨gp, Fp0, rfl, hf, hF, hb⟩
    have HD0 := Lib.hid (Duo10.new hC hf (fun b c => Nat.le_trans HB1.out.size (hF b c)) (bthen HB1.out hb))
    obtain ⟨gr, hgr⟩ : ∃ gr, gr = w2.heap.size := ⟨_, rfl⟩
    clear hf hF hb
    go_upto_region 6 with fail
    refine fin (fun W => ∃ Fq0, Duo10 FB RWB w W gp gr Fp0 Fq0 FD0 FD0) ⟨_, by rw [hgr]; exact HD0.out⟩ ?_
    rw [← hgr]
    clear HD0 hgr HB1
    rintro W0 hd0
    have HD0 := Lib.hid hd0
    clear hd0
    go_wp2
    go_loopw [10] (fun i wr => ∃ j : Nat, j ≤ len ∧ i = .int .i64 j ∧ ∃ Fp Fq, Duo10 FB RWB w wr gp gr Fp Fq (Dk As j) (Dk As j)) (fun i _ => len - (ivl i).toNat)
    case atStart =>
      obtain ⟨Fq0, hd⟩ := HD0.out
      exact ⟨0, by omega, rfl, Fp0, Fq0, hd⟩
    case round =>
      clear HD0
      obtain ⟨j, hj, rfl, Fp, Fq, hd⟩ := hrel
      have HD := Lib.hid hd
      clear hd
      by_cases hlt : j < len
      · obtain ⟨b, off, x, rfl, hx, hr, hok⟩ := (HRow.out.keep HD.out.low).at_ hlt
        have cx0 : wr.cell? ⟨b, off + j * 3, none⟩ = some (.int .u8 x.k) := hr 0 _ rfl
        have cx1 : wr.cell? ⟨b, off + j * 3 + 1, none⟩ = some (.slice x.a x.n x.cap) := hr 1 _ rfl
        have cx2 : wr.cell? ⟨b, off + j * 3 + 2, none⟩ = some (.slice x.b x.m x.cap') := hr 2 _ rfl
        have hbl := World.block_lt_of_cell? _ _ cx0
        obtain ⟨b', off', x', e', hx', _, hok'⟩ := HRow.out.at_ hlt
        have exx : x' = x := by rw [hx] at hx'; injection hx' with q; exact q.symm
        subst exx
        obtain ⟨hDj, hBj⟩ := Dk_all HRow.out HAll.out j hj
        have a1 := HAll.out j hj
        have a2 := HAll.out (j + 1) (by omega)
        rw [suA_step hx] at a2
        have b1 := hBj.l
        have b2 := hBj.d
        have b3 := hBj.s
        have b6 : x'.m * (Dk As j).L.length ≤ x'.m * 80 := Nat.mul_le_mul_left _ (by omega)
        have HSt := Lib.hid (step10_any hC hK gc_rwb HD.out hDj x' (fun _ => gr_rwb) hok' (by omega) (by omega) (by omega) (by omega) (by omega))
        rw [← Dk_succ hx] at HSt
        have k0 : (0 : Int) ≤ (j : Int) := by omega
        have k1 : (j : Int) < (len : Int) := by omega
        obtain ⟨xk, hxk⟩ : ∃ xk, xk = x'.k := ⟨_, rfl⟩
        obtain ⟨xa, hxa⟩ : ∃ xa, xa = x'.a := ⟨_, rfl⟩
        obtain ⟨xn, hxnn⟩ : ∃ xn, xn = x'.n := ⟨_, rfl⟩
        obtain ⟨xc, hxc⟩ : ∃ xc, xc = x'.cap := ⟨_, rfl⟩
        obtain ⟨xb, hxb⟩ : ∃ xb, xb = x'.b := ⟨_, rfl⟩
        obtain ⟨xm, hxm⟩ : ∃ xm, xm = x'.m := ⟨_, rfl⟩
        obtain ⟨xd, hxd⟩ : ∃ xd, xd = x'.cap' := ⟨_, rfl⟩
        rw [← hxk] at cx0 HSt
        rw [← hxa, ← hxnn, ← hxc] at cx1 HSt
        rw [← hxb, ← hxm, ← hxd] at cx2 HSt
        clear hx hr hok hok' hx' hxk hxa hxnn hxc hxb hxm hxd e' hDj hBj a1 a2 b1 b2 b3 b6
        go_wp2_with fail
        refine HSt.out.mono ?_
        rintro e w3 ⟨rfl, Fp1, Fq1, hd⟩
        have HD1 := Lib.hid hd
        clear hd HSt HD cx0 cx1 cx2 hbl
        go_wp2
        go_roundw
        case rel => exact ⟨j + 1, by omega, by go_num, Fp1, Fq1, HD1.out⟩
        case measure => simp [ivl] <;> omega
      · obtain rfl : j = len := by omega
        have j1 : ¬ (j : Int) < (j : Int) := by omega
        obtain ⟨hDj, hBj⟩ := Dk_all HRow.out HAll.out j (Nat.le_refl _)
        have a1 := HAll.out j (Nat.le_refl _)
        have b1 := hBj.l
        have b2 := hBj.d
        have b3 := hBj.s
        obtain ⟨D, hDD⟩ : ∃ D, D = Dk As j := ⟨_, rfl⟩
        rw [← hDD] at HD hDj b1 b2 b3
        have hl80 : D.L.length ≤ 80 := by omega
        have hs80 : D.steps ≤ 2400 := by omega
        have hd80 : D.dirty.length ≤ 6400 := by omega
        have hdt := touch_len hDj.wf
        have hD1 : DOk (runD D) := hDj.run
        have HR1 : Hid (Calls Tryz.prog 8 #[.pointer (some ⟨gp, 0, none⟩)] wr fun e w' => ∃ v, e = .returned (.tuple #[v, .int .i64 (runE D)]) ∧ ∃ Fp', Duo10 FB RWB w w' gp gr Fp' Fq (runD D) D) := Lib.hid ((hC.run wr gp Fp D hDj (by omega) (by omega) HD.out.p).mono fun e w' ⟨v, q1, _, q3⟩ => by
          obtain ⟨Fp', k1, _⟩ := HD.out.prog kb_rwb q3.toX
          exact ⟨v, q1, Fp', k1⟩)
        have HR2 : Hid (∀ u Fp', Duo10 FB RWB w u gp gr Fp' Fq (runD D) D → Calls Tryz.prog 9 #[.pointer (some ⟨gr, 0, none⟩)] u fun e w' => ∃ v, e = .returned v ∧ ∃ Fq', Duo10 FB RWB w w' gp gr Fp' Fq' (runD D) (runD D)) := Lib.hid (fun u Fp' d => (gr_rwb u gr Fq D d.q hDj (by omega) (by omega) (by omega)).mono fun e w' ⟨v, q1, _, q3⟩ => by
          obtain ⟨Fq', k1, _⟩ := d.ref hK q3
          exact ⟨_, q1, Fq', k1⟩)
        obtain ⟨E, hE⟩ : ∃ E, E = runE D := ⟨_, rfl⟩
        rw [← hE] at HR1
        have HE := Lib.hid hE
        clear hE hDD b1 b2 b3 a1 hBj HRow HAll HNew HD
        go_wp2_with fail
        refine HR1.out.mono ?_
        rintro e w3 ⟨v1, rfl, Fp1, hd⟩
        have HR22 := Lib.hid (HR2.out w3 Fp1 hd)
        clear hd HR1 HR2
        go_wp2_with fail
        refine HR22.out.mono ?_
        rintro e w4 ⟨v2, rfl, Fq1, hd⟩
        clear HR22
        obtain ⟨vs, hv⟩ := hd.q.toV
        have HDv : Hid (Duo10 FB (RWV vs) w w4 gp gr Fp1 Fq1 (runD D) (runD D)) := Lib.hid ⟨hd.p, hv, hd.far, hd.low, hd.np, hd.nq⟩
        obtain ⟨vl, vd, hrw, _⟩ := hv
        have c3 : w4.cell? ⟨gr, 3, none⟩ = some vs := hrw.blk.cell 3
        have hgr := hrw.blk.lt
        obtain ⟨wa, wcap, hvs, _, _, _⟩ := hrw.sts.row cSt_len
        rw [hvs] at c3
        clear hd hrw
        by_cases hE0 : E = 0
        · obtain ⟨wn, hwn⟩ : ∃ wn, wn = (runD D).sts.length := ⟨_, rfl⟩
          rw [← hwn] at c3 hvs
          subst hE0
          have hrE : runE D = 0 := HE.out.symm
          have hb1 : (runD D).begun = true := decide_eq_true hrE
          have hd1 : (runD D).dirty.length = 0 := rfl
          have hl1 : (runD D).L.length ≤ 80 := hl80
          have hs1 : (runD D).steps ≤ 2480 := by show D.steps + (touchN D).length ≤ 2480; omega
          obtain ⟨D1, hD1e⟩ : ∃ D1, D1 = runD D := ⟨_, rfl⟩
          rw [← hD1e] at HDv hD1 hb1 hd1 hl1 hs1 hwn
          obtain ⟨D2, hD2e⟩ : ∃ D2, D2 = dropS D1 gids := ⟨_, rfl⟩
          obtain ⟨D3, hD3e⟩ : ∃ D3, D3 = putFD D2 ml := ⟨_, rfl⟩
          have hmn : mn ≤ 30 := by omega
          have hgn : gn ≤ 30 := by omega
          have hgl : gids.length = gn := HGr.out.1.1
          have hml : ml.length = mn := HMr.out.1.1
          have hA2 : doA D1 4 [] gids = D2 := by rw [hD2e]; unfold doA; rw [if_neg (by decide), if_pos (by decide)]
          have hA3 : doA D2 0 ml [] = D3 := by rw [hD3e]; unfold doA; rw [if_pos (by decide)]
          have hD2 : DOk D2 := by rw [← hA2]; exact hD1.act 4 (fun n h => by cases h) gids
          have hD3 : DOk D3 := by rw [← hA3]; exact hD2.act 0 HMr.out.2 []
          obtain ⟨y1, y2, y3⟩ := drops_size gids D1 80 hl1
          obtain ⟨z1, z2, z3⟩ := put_size D2 ml
          rw [← hD2e] at y1 y2 y3
          rw [← hD3e] at z1 z2 z3
          have hl2 : D2.L.length ≤ 80 := by omega
          have hd2 : D2.dirty.length ≤ 2400 := by omega
          have hl3 : D3.L.length ≤ 110 := by omega
          have hb3 : D3.begun = true := by rw [hD3e, (put_same D2 ml).1, hD2e, (drops_same gids D1).1]; exact hb1
          have hs3 : D3.sts = D1.sts := by rw [hD3e, (put_same D2 ml).2, hD2e, (drops_same gids D1).2]
          have hst3 : D3.steps = D1.steps := by omega
          have hx1 : gn * D1.L.length ≤ 30 * 80 := Nat.mul_le_mul hgn hl1
          have HSt : Hid (Calls Tryz.prog 10 #[.pointer (some ⟨gp, 0, none⟩)] w4 fun e w' => e = .returned (.int .i64 D1.steps) ∧ Duo10 FB (RWV vs) w w' gp gr Fp1 Fq1 D1 D1) := Lib.hid ((hC.steps w4 gp Fp1 D1 HDv.out.p).mono fun e w' q => ⟨q.1, HDv.out.keep hK (kb_rwv vs) q.2⟩)
          have HA : Hid (∀ u, Duo10 FB (RWV vs) w u gp gr Fp1 Fq1 D1 D1 → Calls Tryz.prog 7 #[.pointer (some ⟨gp, 0, none⟩), .pointer (some ⟨gr, 0, none⟩), .agg #[.int .u8 4, .slice none 0 0, .slice ga gn gcap]] u fun e w' => e = .returned (.bool true) ∧ ∃ Fp' Fq', Duo10 FB (RWV vs) w w' gp gr Fp' Fq' D2 D2) := Lib.hid (fun u d => by
            have := step10_any hC hK (gc_rwv vs) d hD1 ⟨4, none, 0, 0, [], ga, gn, gcap, gids⟩ (fun c => absurd (show (4 : Int) % 9 < 6 by decide) c) ⟨(show (0 : Int) ≤ 4 by decide), (show (4 : Int) ≤ 255 by decide), ⟨⟨rfl, Nat.zero_le _, Or.inl rfl⟩, fun x h => by cases h⟩, HGr.out.1, HGr.out.2⟩ (by omega) (by show 0 ≤ 100; omega) (by show gn ≤ 100; omega) (by show D1.dirty.length + gn * D1.L.length + 0 ≤ 9000; omega) (by omega)
            rw [← hA2]
            exact this)
          have HB : Hid (∀ u Fp' Fq', Duo10 FB (RWV vs) w u gp gr Fp' Fq' D2 D2 → Calls Tryz.prog 7 #[.pointer (some ⟨gp, 0, none⟩), .pointer (some ⟨gr, 0, none⟩), .agg #[.int .u8 0, .slice ma mn mcap, .slice none 0 0]] u fun e w' => e = .returned (.bool true) ∧ ∃ Fp' Fq', Duo10 FB (RWV vs) w w' gp gr Fp' Fq' D3 D3) := Lib.hid (fun u Fp' Fq' d => by
            have := step10_any hC hK (gc_rwv vs) d hD2 ⟨0, ma, mn, mcap, ml, none, 0, 0, []⟩ (fun c => absurd (show (0 : Int) % 9 < 6 by decide) c) ⟨(show (0 : Int) ≤ 0 by decide), (show (0 : Int) ≤ 255 by decide), ⟨HMr.out.1, HMr.out.2⟩, ⟨rfl, Nat.zero_le _, Or.inl rfl⟩, fun x h => by cases h⟩ (by omega) (by show mn ≤ 100; omega) (by show 0 ≤ 100; omega) (by show D2.dirty.length + 0 * D2.L.length + mn ≤ 9000; omega) (by omega)
            rw [← hA3]
            exact this)
          obtain ⟨E3, hE3⟩ : ∃ E3, E3 = runE D3 := ⟨_, rfl⟩
          obtain ⟨K, hKe⟩ : ∃ K, K = touchN D3 := ⟨_, rfl⟩
          obtain ⟨nk, hnk⟩ : ∃ nk, nk = K.length := ⟨_, rfl⟩
          have HRn : Hid (∀ u Fp' Fq' vl vd, Duo10 FB (RWW vl vd vs) w u gp gr Fp' Fq' D3 D3 → Calls Tryz.prog 8 #[.pointer (some ⟨gp, 0, none⟩)] u fun e w' => ∃ ka kc, e = .returned (.tuple #[.slice ka nk kc, .int .i64 E3]) ∧ nk ≤ kc ∧ Row w' ka nk K ∧ ∃ Fp2, Duo10 FB (RWW vl vd vs) w w' gp gr Fp2 Fq' (runD D3) D3) := Lib.hid (fun u Fp' Fq' vl vd d => (hRC u gp Fp' D3 hD3 (by omega) (by omega) d.p).mono fun e w' ⟨v, q1, ⟨ka, kc, ev, r, _⟩, ⟨a9, n9, c9, ev9, hc9⟩, q3⟩ => by
            obtain ⟨Fp2, k1, _⟩ := d.prog (kb_rww vl vd vs) q3.toX
            rw [ev] at ev9
            injection ev9 with _ e2 e3
            rw [← hKe, ← hnk] at r ev e2
            exact ⟨ka, kc, by rw [q1, ev, hE3], by omega, r, Fp2, k1⟩)
          have htl3 : nk ≤ 110 := by rw [hnk, hKe]; exact Nat.le_trans (touch_len hD3.wf) hl3
          obtain ⟨nL, hnL⟩ : ∃ nL, nL = D3.L.length := ⟨_, rfl⟩
          obtain ⟨T, hT⟩ : ∃ T, T = treesN D3.L := ⟨_, rfl⟩
          have HUp : Hid (∀ x ∈ K, 0 ≤ x ∧ ∃ y ∈ D3.dirty, (x = y ∨ y ∈ abv T x) ∧ 0 + (abv T x).length ≤ nL) := Lib.hid (fun x hx => by
            rw [hKe] at hx
            obtain ⟨k1, y, k2, k3⟩ := touch_up hD3 hb3 hx
            rw [hT]
            exact ⟨k1, y, k2, k3, by have k4 := abv_len hD3.wf x; have k5 := trees_len D3.L; omega⟩)
          have HOn : Hid (∀ y cur c, (cur = y ∨ y ∈ abv T cur) → cur ≠ y → c + (abv T cur).length ≤ nL → 0 ≤ hangs D3.L cur ∧ (hangs D3.L cur = y ∨ y ∈ abv T (hangs D3.L cur)) ∧ (c + 1) + (abv T (hangs D3.L cur)).length ≤ nL) := Lib.hid (fun y cur c h1 h2 h3 => by
            rw [hT] at h1 h3 ⊢
            obtain ⟨k1, k2, k3⟩ := on_step hD3 h1 h2
            exact ⟨k1, k2, by omega⟩)
          have HOnce : Hid (∀ q x, K[q]? = some x → decide (x ∈ K.take q) = false) := Lib.hid (fun q x hx => decide_eq_false (by
            have hnd : K.Nodup := by rw [hKe]; exact undL_nod hD3.wf _
            intro c
            obtain ⟨i, hi, e⟩ := List.mem_iff_getElem.1 c
            rw [List.length_take] at hi
            rw [List.getElem_take] at e
            obtain ⟨hq, e2⟩ := List.getElem?_eq_some_iff.1 hx
            have := (List.getElem_inj hnd).1 (e.trans e2.symm)
            omega))
          have HSt3 : Hid (∀ u F, FB u gp F (runD D3) → Calls Tryz.prog 10 #[.pointer (some ⟨gp, 0, none⟩)] u fun e w' => e = .returned (.int .i64 ((D1.steps + nk : Nat) : Int)) ∧ Below u.heap.size u w') := Lib.hid (fun u F h => (hC.steps u gp F (runD D3) h).mono fun e w' q => ⟨by rw [q.1]; show Ending.returned (.int .i64 ((D3.steps + (touchN D3).length : Nat) : Int)) = _; rw [hst3, hnk, hKe], q.2⟩)
          have hD3r : DOk (runD D3) := hD3.run
          have hl3r : (runD D3).L.length ≤ 300 := by show D3.L.length ≤ 300; omega
          have HSta : Hid (∀ u F, FB u gp F (runD D3) → ∀ st ∈ D1.sts, Calls Tryz.prog 13 #[.pointer (some ⟨gp, 0, none⟩), .int .i64 st.id] u fun e w' => e = .returned (.tuple #[.agg (cFs ((stateN (runD D3) st.id).getD zSt)).toArray, .bool (stateN (runD D3) st.id).isSome]) ∧ Below u.heap.size u w') := Lib.hid (fun u F h st hs => by
            rw [hD1e] at hs
            obtain ⟨_, k2, _⟩ := told_fate hDj hrE hs
            exact (hC.state u gp F (runD D3) st.id hD3r hl3r h (node_nn hDj k2).2).mono fun e w' ⟨Y, k1, k2, k3⟩ => ⟨by rw [k1, k2], k3⟩)
          have HTd : Hid (E3 = 0 → ∀ st ∈ D1.sts, (stateN (runD D3) st.id).isSome = true → st.id ∉ K → stateN (runD D3) st.id = some st) := Lib.hid (fun h3 st hs hi hk => by
            rw [hD1e] at hs hs3
            rw [hKe] at hk
            exact told_same hDj hrE hD3 hb3 hs3 (by rw [← hE3]; exact h3) hs hi hk)
          obtain ⟨ns, hns⟩ : ∃ ns, ns = D1.steps := ⟨_, rfl⟩
          rw [← hns] at HSt HSt3
          have hnsb : ns ≤ 2480 := by rw [hns]; exact hs1
          have HRx : Hid (∀ u vl vd F, RWW vl vd vs u gr F D3 → ∃ la lc da dc, vd = .slice da D3.dirty.length dc ∧ ∀ z, Below u.heap.size u z → z.cell? ⟨gr, 0, none⟩ = some (.slice la nL lc) ∧ z.cell? ⟨gr, 1, none⟩ = some (.slice da D3.dirty.length dc) ∧ gr < z.heap.size ∧ NRow z la nL D3.L ∧ Row z da D3.dirty.length D3.dirty ∧ SRow z wa wn D1.sts) := Lib.hid (fun u vl vd F h => by
            obtain ⟨la, lc, hvl, hnr⟩ := h.1.nodes
            obtain ⟨da, dc, hvd, hdr⟩ := h.1.dirts
            obtain ⟨wa2, wc2, hv3, _, _, hsr⟩ := h.1.sts.row cSt_len
            rw [hvs] at hv3
            injection hv3 with e1 e2 e3
            rw [hs3] at hsr
            refine ⟨la, lc, da, dc, hvd, fun z q => ?_⟩
            obtain ⟨n1, n2, n3⟩ := hnr z q
            obtain ⟨d1, _, _, d4⟩ := hdr z q
            rw [← hnL] at n1 n3
            refine ⟨n1, d1, n2, n3, d4, ?_⟩
            have := hsr.keep q
            rw [← e1, ← hwn] at this
            exact this)
          obtain ⟨dirty, hdirty⟩ : ∃ l, l = D3.dirty := ⟨_, rfl⟩
          rw [← hdirty] at HRx HUp
          obtain ⟨nd, hnd⟩ : ∃ nd, nd = dirty.length := ⟨_, rfl⟩
          rw [← hnd] at HRx
          have HKp := Lib.hid hC.keep_
          have HKi := Lib.hid hC.inb
          have hwnl : D1.sts.length = wn := hwn.symm
          have hLl : D3.L.length = nL := hnL.symm
          have hnLb : nL ≤ 110 := by omega
          obtain ⟨L3, hL3⟩ : ∃ l, l = D3.L := ⟨_, rfl⟩
          rw [← hL3] at HOn HRx hLl
          have HKeep : Hid (∀ u u' F, FB u gp F (runD D3) → Below u.heap.size u u' → FB u' gp F (runD D3)) := Lib.hid (fun u u' F h q => hC.keep h q)
          have HDu : Hid (Duo10 FB (RWV vs) w w4 gp gr Fp1 Fq1 D1 D1) := HDv
          clear HKp HKi hrE hb1 hd1 hl1 hs1 hD1e hD2e hD3e hmn hgn hgl hml hA2 hA3 hD2 hD3 y1 y2 y3 z1 z2 z3 hl2 hd2 hl3 hb3 hs3 hst3 hx1 hE3 hKe hnL hT hD3r hl3r hns hdirty hnd hL3 hvs hwn hnk hDj hD1 hdt HE HDv hl80 hs80 hd80 HMr HGr HDu
          go_wp2_with fail
          refine HSt.out.mono ?_
          rintro e w5 ⟨rfl, hd⟩
          have HA2 := Lib.hid (HA.out w5 hd)
          clear hd HSt HA c3 hgr
          go_wp2_with fail
          refine HA2.out.mono ?_
          rintro e w6 ⟨rfl, Fp2, Fq2, hd⟩
          have HB2 := Lib.hid (HB.out w6 Fp2 Fq2 hd)
          clear hd HA2 HB
          go_wp2_with fail
          refine HB2.out.mono ?_
          rintro e w7 ⟨rfl, Fp3, Fq3, hd⟩
          obtain ⟨vl, vd, hrw, hfq⟩ := hd.q
          have HRn2 := Lib.hid (HRn.out w7 Fp3 Fq3 vl vd ⟨hd.p, ⟨hrw, hfq⟩, hd.far, hd.low, hd.np, hd.nq⟩)
          obtain ⟨la0, lc0, da, dc, hvd, hz⟩ := HRx.out w7 vl vd Fq3 ⟨hrw, hfq⟩
          obtain ⟨_, c1, hgr, _⟩ := hz w7 (Below.refl _ _)
          have HVd := Lib.hid hvd
          clear hd HB2 HRn hrw hfq hvd hz
          go_wp2_with fail
          refine HRn2.out.mono ?_
          rintro e w8 ⟨ka, kc, rfl, hkc, hr, Fp4, hd⟩
          obtain ⟨la, lc, da2, dc2, hvd, hz⟩ := HRx.out w8 vl vd Fq3 hd.q
          have HP8 := Lib.hid hd.p
          have HL8 := Lib.hid hd.low
          rw [HVd.out] at hvd
          injection hvd with e1 e2 e3
          subst e1
          have HA8 : Hid (∀ z, Below w8.heap.size w8 z → z.cell? ⟨gr, 0, none⟩ = some (.slice la nL lc) ∧ gr < z.heap.size ∧ NRow z la nL L3 ∧ Row z da nd dirty ∧ SRow z wa wn D1.sts ∧ Row z ka nk K ∧ FB z gp Fp4 (runD D3) ∧ Below w.heap.size w z) := Lib.hid (fun z q => by
            obtain ⟨k1, _, k3, k4, k5, k6⟩ := hz z q
            exact ⟨k1, k3, k4, k5, k6, row_keep hr q, HKeep.out _ _ _ HP8.out q, bthen HL8.out q⟩)
          clear hd hr hz c1 hgr HVd HRx HRn2 HP8 HL8 HKeep e2 e3
          go_wp2
          go_loopw [18, 19, 20, 21] (fun i _ _ _ wr => ∃ q : Nat, q ≤ nk ∧ i = .int .i64 q ∧ Below w8.heap.size w8 wr) (fun i _ _ _ _ => nk - (ivl i).toNat)
          case atStart => exact ⟨0, by omega, rfl, Below.refl _ _⟩
          case round =>
            obtain ⟨q, hq, rfl, hb⟩ := hrel
            have HBq := Lib.hid hb
            by_cases hlt : q < nk
            · obtain ⟨cl, hgr, hnr, hdr, _, hkr, _, _⟩ := HA8.out wr hb
              obtain ⟨b, off, x, rfl, hx, cx⟩ := row_at hkr hlt
              have hbl := World.block_lt_of_cell? _ _ cx
              obtain ⟨hx0, y, hy, hon, hln⟩ := HUp.out x (List.mem_of_getElem? hx)
              have HO2 := Lib.hid (HOnce.out q x hx)
              have HY := Lib.hid hy
              have HI0 := Lib.hid (And.intro hx0 (And.intro hon hln))
              have HNr := Lib.hid hnr
              have HDr := Lib.hid hdr
              have HKr := Lib.hid hkr
              have k0 : (0 : Int) ≤ (q : Int) := by omega
              have k1 : (q : Int) < (nk : Int) := by omega
              have k2 : (q : Int) ≤ (kc : Int) := by omega
              have HQ2 : Hid (∀ nq c, Calls Tryz.prog 11 #[.slice (some ⟨b, off, none⟩) q c, .int .i64 x] (wr.drewN nq) fun e w' => e = .returned (.bool false) ∧ w' = wr.drewN nq) := Lib.hid (fun nq c => by
                have h9 := plhas_any (some ⟨b, off, none⟩) q c (K.take q) x (wr.drewN nq) (row_keep (row_prefix HKr.out (Nat.le_of_lt hlt)) (Go.below_drewN (Below.refl _ _) nq))
                rw [HO2.out] at h9
                exact h9.mono fun _ _ z => ⟨z.1, z.2.symm⟩)
              clear hx0 hon hln hx hnr hdr hkr hb hy
              go_wp2
              go_loopw [19, 20, 21] (fun v19 v20 v21 wz => ∃ (c : Nat) (z : Int), v19 = .int .i64 z ∧ v21 = .int .i64 c ∧ c ≤ nL + 1 ∧ wz = wr ∧ (v20 = .bool true ∨ v20 = .bool false ∧ 0 ≤ z ∧ (z = y ∨ y ∈ abv T z) ∧ c + (abv T z).length ≤ nL)) (fun _ _ i _ => nL + 1 - (ivl i).toNat)
              case atStart => exact ⟨0, x, rfl, rfl, by omega, rfl, Or.inr ⟨rfl, HI0.out⟩⟩
              case round =>
                clear HI0
                obtain ⟨c, z, rfl, rfl, hc, rfl, hv⟩ := hrel
                rcases hv with rfl | ⟨rfl, hz, hon, hln⟩
                · have h3 : ((c : Int) ≤ (nL : Int) ∧ (0 : Int) ≤ z) ∨ ((c : Int) ≤ (nL : Int) ∧ ¬ (0 : Int) ≤ z) ∨ ¬ (c : Int) ≤ (nL : Int) := by omega
                  rcases h3 with ⟨m1, m2⟩ | ⟨m1, m2⟩ | m1
                  all_goals
                    go_wp2
                    go_quiet (first | (go_at_call 11; refine Calls.quiet_of_same (HQ2.out _ _)))
                    refine fin (fun W => Below w8.heap.size w8 W) (Go.below_drewN HBq.out nq) ?_
                    clear HBq HQ2 HNr HDr HKr HO2 HY cl cx hbl hgr
                    rintro W hW
                    have HW := Lib.hid hW
                    clear hW
                    go_wp2
                    go_roundw
                    case rel => exact ⟨q + 1, by omega, by go_num, HW.out⟩
                    case measure => simp [ivl] <;> omega
                · have HO := Lib.hid hon
                  have hcn : (c : Int) ≤ (nL : Int) := by omega
                  have HH := Lib.hid (plhas_any da nd dc dirty z _ HDr.out)
                  have HG := Lib.hid (ghangs_any la nL lc L3 z _ HNr.out)
                  have HNx : Hid (z ∉ dirty → 0 ≤ hangs L3 z ∧ (hangs L3 z = y ∨ y ∈ abv T (hangs L3 z)) ∧ (c + 1) + (abv T (hangs L3 z)).length ≤ nL) := Lib.hid (fun hm => HOn.out y z c HO.out (fun e => hm (by rw [e]; exact HY.out)) hln)
                  have HLn := Lib.hid hln
                  obtain ⟨p, hp⟩ : ∃ p, p = hangs L3 z := ⟨_, rfl⟩
                  rw [← hp] at HG HNx
                  have hcb : c ≤ nL := by omega
                  clear hon hln hp
                  by_cases hm : z ∈ dirty
                  · rw [decide_eq_true hm] at HH
                    clear hm HNx
                    go_wp2_with fail
                    refine HH.out.mono ?_
                    rintro e w9 ⟨rfl, rfl⟩
                    clear HH
                    go_wp2_with fail
                    refine HG.out.mono ?_
                    rintro e w9 ⟨rfl, rfl⟩
                    clear HG
                    go_wp2
                    go_roundw
                    case rel => exact ⟨c + 1, p, rfl, by go_num, by omega, by trivial, Or.inl rfl⟩
                    case measure => simp [ivl] <;> omega
                  · rw [decide_eq_false hm] at HH
                    have HN2 := Lib.hid (HNx.out hm)
                    clear hm HNx
                    go_wp2_with fail
                    refine HH.out.mono ?_
                    rintro e w9 ⟨rfl, rfl⟩
                    clear HH
                    go_wp2_with fail
                    refine HG.out.mono ?_
                    rintro e w9 ⟨rfl, rfl⟩
                    clear HG
                    go_wp2
                    go_roundw
                    case rel => exact ⟨c + 1, p, rfl, by go_num, by omega, by trivial, Or.inr ⟨rfl, HN2.out⟩⟩
                    case measure => simp [ivl] <;> omega
            · obtain rfl : q = nk := by omega
              have jq : ¬ (q : Int) < (q : Int) := by omega
              obtain ⟨_, _, _, _, _, _, hfp, _⟩ := HA8.out wr HBq.out
              have HS3 : Hid (Calls Tryz.prog 10 #[.pointer (some ⟨gp, 0, none⟩)] wr fun e w' => e = .returned (.int .i64 ((ns : Int) + (q : Int))) ∧ Below wr.heap.size wr w') := Lib.hid (by
                have := HSt3.out wr Fp4 hfp
                rwa [Int.natCast_add] at this)
              have hw : IntKind.i64.wrap ((ns : Int) + (q : Int)) = (ns : Int) + (q : Int) := by rw [IntKind.wrap_i64]; omega
              clear hfp hb HSt3 HOn HUp HOnce
              go_wp2_with fail
              refine HS3.out.mono ?_
              rintro e w9 ⟨rfl, hb9⟩
              have HB9 := Lib.hid (bthen HBq.out hb9)
              clear hb9 HS3 HBq
              go_wp2
              go_loopw [22, 23, 24, 25] (fun i _ _ _ wz => ∃ k : Nat, k ≤ wn ∧ i = .int .i64 k ∧ Below w8.heap.size w8 wz) (fun i _ _ _ _ => wn - (ivl i).toNat)
              case atStart => exact ⟨0, by omega, rfl, HB9.out⟩
              case round =>
                clear HB9 hw
                obtain ⟨k, hk, rfl, hb⟩ := hrel
                have HBk := Lib.hid hb
                obtain ⟨_, _, _, _, hsr, hkr, hfp, hlw⟩ := HA8.out _ hb
                have hend : ¬ (k < wn ∧ E3 = 0) → (¬ (k : Int) < (wn : Int)) ∨ ((k : Int) < (wn : Int) ∧ ¬ E3 = 0) := fun c => by
                  by_cases c1 : k < wn
                  · exact Or.inr ⟨by omega, fun c2 => c ⟨c1, c2⟩⟩
                  · exact Or.inl (by omega)
                by_cases hgo : k < wn ∧ E3 = 0
                · obtain ⟨hkn, hE3⟩ := hgo
                  obtain ⟨b, off, st, rfl, hbl, hx, hr⟩ := hsr.at_ hkn
                  have hxm := List.mem_of_getElem? hx
                  have c0 : wr.cell? ⟨b, off + k * 14, none⟩ = some (.int .i64 st.id) := hr 0 _ rfl
                  have HC := Lib.hid (HSta.out _ Fp4 hfp st hxm)
                  have HKs : Hid (∀ u, Below wr.heap.size wr u → u.cell? ⟨b, off + k * 14, none⟩ = some (.int .i64 st.id) ∧ b < u.heap.size ∧ u.rangeAt b (off + k * 14 + 1) [.int .i64 (st.wo 0), .int .i64 (st.wo 1), .int .i64 (st.wo 2), .int .i64 (st.wo 3), .int .i64 (st.wo 4), .int .i64 (st.wo 5), .int .i64 (st.wo 6), .int .i64 (st.wo 7), .int .i64 (st.wo 8), .int .i64 (st.wo 9), .int .i64 (st.wo 10), .int .i64 (st.wo 11)] ∧ u.cell? ⟨b, off + k * 14 + 13, none⟩ = some (.bool st.sh) ∧ Row u ka q K) := Lib.hid (fun u e => by
                    have r2 := range_same hr (e.block b hbl)
                    refine ⟨r2 0 _ rfl, Nat.lt_of_lt_of_le hbl e.size, fun i v hv => ?_, r2 13 _ rfl, row_keep hkr e⟩
                    have := r2 (i + 1) v (by
                      show ([.int .i64 (st.wo 0), .int .i64 (st.wo 1), .int .i64 (st.wo 2), .int .i64 (st.wo 3), .int .i64 (st.wo 4), .int .i64 (st.wo 5), .int .i64 (st.wo 6), .int .i64 (st.wo 7), .int .i64 (st.wo 8), .int .i64 (st.wo 9), .int .i64 (st.wo 10), .int .i64 (st.wo 11)] ++ [Value.bool st.sh] : List Value)[i]? = some v
                      rw [List.getElem?_append_left (List.getElem?_eq_some_iff.1 hv).1]
                      exact hv)
                    rw [show off + k * 14 + 1 + i = off + k * 14 + (i + 1) by omega]
                    exact this)
                  have HH : Hid (∀ u, Row u ka q K → Calls Tryz.prog 11 #[.slice ka q kc, .int .i64 st.id] u fun e w' => e = .returned (.bool (decide (st.id ∈ K))) ∧ u = w') := Lib.hid (fun u r => plhas_any ka q kc K st.id u r)
                  obtain ⟨s, hs⟩ : ∃ s, s = (stateN (runD D3) st.id).getD zSt := ⟨_, rfl⟩
                  obtain ⟨is, hi⟩ : ∃ is, is = (stateN (runD D3) st.id).isSome := ⟨_, rfl⟩
                  obtain ⟨tt, ht⟩ : ∃ tt, tt = decide (st.id ∈ K) := ⟨_, rfl⟩
                  have hcase : is = false ∨ (is = true ∧ tt = true) ∨ (is = true ∧ tt = false ∧ s = st) := by
                    by_cases c1 : is = true
                    · by_cases c2 : st.id ∈ K
                      · exact Or.inr (Or.inl ⟨c1, by rw [ht, decide_eq_true c2]⟩)
                      · refine Or.inr (Or.inr ⟨c1, by rw [ht, decide_eq_false c2], ?_⟩)
                        rw [hs, HTd.out hE3 st hxm (by rw [← hi]; exact c1) c2]
                        rfl
                    · exact Or.inl (by simpa using c1)
                  have HCase := Lib.hid hcase
                  rw [← hs, ← hi] at HC
                  rw [← ht] at HH
                  have HX := Lib.hid (fe_any s)
                  have HCx : Hid (∀ W gg, Blk W gg 48 (cFs s).toArray → W.rangeAt gg 0 [.int .i64 (s.wo 0), .int .i64 (s.wo 1), .int .i64 (s.wo 2), .int .i64 (s.wo 3), .int .i64 (s.wo 4), .int .i64 (s.wo 5), .int .i64 (s.wo 6), .int .i64 (s.wo 7), .int .i64 (s.wo 8), .int .i64 (s.wo 9), .int .i64 (s.wo 10), .int .i64 (s.wo 11)] ∧ W.cell? ⟨gg, 12, none⟩ = some (.bool s.sh)) := Lib.hid (fun W gg k => ⟨blk_range k 0 12, k.cell 12⟩)
                  obtain ⟨XX, hXX⟩ : ∃ XX, XX = cFs s := ⟨_, rfl⟩
                  rw [← hXX] at HC HX HCx
                  obtain ⟨xi, hxi⟩ : ∃ xi, xi = st.id := ⟨_, rfl⟩
                  rw [← hxi] at c0 HC HKs HH
                  have j0 : (0 : Int) ≤ (k : Int) := by omega
                  have j2 : (k : Int) < (wn : Int) := by omega
                  have hwb : wn ≤ 9223372036854775807 := hsr.2.1
                  clear hx hxm hr hsr hkr hfp hlw hb hend hs hi ht hcase hXX hxi
                  subst hE3
                  go_wp2_with fail
                  refine HC.out.mono ?_
                  rintro e w10 ⟨rfl, b5⟩
                  have hal : Below w10.heap.size w10 (w10.alloc (.cells (cFs zSt).toArray 48)) := alloc_below _ _
                  have hbs : Below w10.heap.size w10 ((w10.alloc (.cells (cFs zSt).toArray 48)).setCells w10.heap.size 0 XX) := below_setCells XX hal (Nat.le_refl _)
                  have HTh : Hid ((w10.alloc (.cells (cFs zSt).toArray 48)).there w10.heap.size 0 XX.toArray.size) := Lib.hid (blk_there (Blk.new w10 _ _) (by rw [List.size_toArray, HX.out.len]; exact Nat.le_refl 13))
                  have HE9 : Hid (Blk ((w10.alloc (.cells (cFs zSt).toArray 48)).setCells w10.heap.size 0 XX) w10.heap.size 48 XX.toArray ∧ Below wr.heap.size wr ((w10.alloc (.cells (cFs zSt).toArray 48)).setCells w10.heap.size 0 XX)) := Lib.hid ⟨blk_over (Blk.new w10 _ _) (by rw [HX.out.len]; rfl), bthen b5 hbs⟩
                  clear b5 hal hbs HC c0 hbl
                  go_upto_region 38 with (refine wpList_store_mid rfl 48 (.tmp 23) (.tmp 165) rfl w10.heap.size 0 XX.toArray rfl rfl HTh.out HX.out.sizea HX.out.onea ?_)
                  refine fin (fun W => Blk W w10.heap.size 48 XX.toArray ∧ Below wr.heap.size wr W) HE9.out ?_
                  clear HE9 HTh HX
                  obtain ⟨g8, hg8⟩ : ∃ g8, g8 = w10.heap.size := ⟨_, rfl⟩
                  rw [← hg8]
                  rintro W ⟨k8, hbW⟩
                  obtain ⟨c0, hbl, r1, c13, hkr⟩ := HKs.out W hbW
                  obtain ⟨r2, c12⟩ := HCx.out W g8 k8
                  have HH2 := Lib.hid (HH.out W hkr)
                  have HBW := Lib.hid (bthen HBk.out hbW)
                  have z8 := k8.lt
                  have HR := Lib.hid (And.intro r1 r2)
                  clear hkr hbW hg8 k8 HH HKs HCx HBk r1 r2
                  go_wp2_with fail
                  refine HH2.out.mono ?_
                  rintro e w11 ⟨rfl, rfl⟩
                  clear HH2
                  rcases HCase.out with rfl | ⟨rfl, rfl⟩ | ⟨rfl, rfl, rfl⟩
                  · clear HCase
                    go_wp2
                    go_quiet (fail)
                    refine fin (fun W => Below w8.heap.size w8 W) (Go.below_drewN HBW.out nq) ?_
                    clear HBW HR c0 c12 c13 z8 hbl
                    rintro W9 hW
                    have HW := Lib.hid hW
                    clear hW
                    go_wp2
                    go_roundw
                    case rel => exact ⟨k + 1, by omega, by go_num, HW.out⟩
                    case measure => simp [ivl] <;> omega
                  · clear HCase
                    go_wp2
                    go_quiet (fail)
                    refine fin (fun W => Below w8.heap.size w8 W) (Go.below_drewN HBW.out nq) ?_
                    clear HBW HR c0 c12 c13 z8 hbl
                    rintro W9 hW
                    have HW := Lib.hid hW
                    clear hW
                    go_wp2
                    go_roundw
                    case rel => exact ⟨k + 1, by omega, by go_num, HW.out⟩
                    case measure => simp [ivl] <;> omega
                  · clear HCase
                    have hS1 : ∀ w', (∃ n, w' = W.drewN n) → w'.rangeAt g8 0 [.int .i64 (s.wo 0), .int .i64 (s.wo 1), .int .i64 (s.wo 2), .int .i64 (s.wo 3), .int .i64 (s.wo 4), .int .i64 (s.wo 5), .int .i64 (s.wo 6), .int .i64 (s.wo 7), .int .i64 (s.wo 8), .int .i64 (s.wo 9), .int .i64 (s.wo 10), .int .i64 (s.wo 11)] := by
                      rintro w' ⟨n, rfl⟩
                      exact range_same HR.out.2 ((Go.below_drewN (Below.refl _ _) n).block g8 z8)
                    have hS2 : ∀ w', (∃ n, w' = W.drewN n) → w'.rangeAt b (off + k * 14 + 1) [.int .i64 (s.wo 0), .int .i64 (s.wo 1), .int .i64 (s.wo 2), .int .i64 (s.wo 3), .int .i64 (s.wo 4), .int .i64 (s.wo 5), .int .i64 (s.wo 6), .int .i64 (s.wo 7), .int .i64 (s.wo 8), .int .i64 (s.wo 9), .int .i64 (s.wo 10), .int .i64 (s.wo 11)] := by
                      rintro w' ⟨n, rfl⟩
                      exact range_same HR.out.1 ((Go.below_drewN (Below.refl _ _) n).block b hbl)
                    have HS1 := Lib.hid hS1
                    have HS2 := Lib.hid hS2
                    have HMz := Lib.hid (sizeM s.wo)
                    have heqM := eqMat
                    clear hS1 hS2
                    go_wp2
                    refine wp_region_quiet_lit (by kernel_rfl) (by kernel_rfl) ?_
                    repeat (quiet_step (fail))
                    refine quiet_load rfl 46 (.tmp 180) rfl g8 0 rfl [.int .i64 (s.wo 0), .int .i64 (s.wo 1), .int .i64 (s.wo 2), .int .i64 (s.wo 3), .int .i64 (s.wo 4), .int .i64 (s.wo 5), .int .i64 (s.wo 6), .int .i64 (s.wo 7), .int .i64 (s.wo 8), .int .i64 (s.wo 9), .int .i64 (s.wo 10), .int .i64 (s.wo 11)] _ HS1.out Tryz.underlying46 rfl HMz.out ?_
                    simp only [Act.put, List.setIfInBounds_toArray, List.set_cons_zero, List.set_cons_succ]
                    repeat (quiet_step (fail))
                    refine quiet_load rfl 46 (.tmp 185) rfl b (off + k * 14 + 1) rfl [.int .i64 (s.wo 0), .int .i64 (s.wo 1), .int .i64 (s.wo 2), .int .i64 (s.wo 3), .int .i64 (s.wo 4), .int .i64 (s.wo 5), .int .i64 (s.wo 6), .int .i64 (s.wo 7), .int .i64 (s.wo 8), .int .i64 (s.wo 9), .int .i64 (s.wo 10), .int .i64 (s.wo 11)] _ HS2.out Tryz.underlying46 rfl HMz.out ?_
                    simp only [Act.put, List.setIfInBounds_toArray, List.set_cons_zero, List.set_cons_succ]
                    repeat (quiet_step (fail))
                    refine wpQuiet_nil ?_
                    intro _ hw'
                    obtain ⟨nq, hw''⟩ := hw'
                    subst hw''
                    clear heqM HS1 HS2 HMz
                    refine fin (fun W => Below w8.heap.size w8 W) (Go.below_drewN HBW.out nq) ?_
                    clear HBW HR c0 c12 c13 z8 hbl
                    rintro W9 hW
                    have HW := Lib.hid hW
                    clear hW
                    go_wp2
                    go_roundw
                    case rel => exact ⟨k + 1, by omega, by go_num, HW.out⟩
                    case measure => simp [ivl] <;> omega
                · have HLw := Lib.hid hlw
                  rcases hend hgo with m1 | ⟨m1, m2⟩
                  all_goals
                    clear hend hgo hsr hkr hfp hlw hb HBk
                    go_wp2_with fail
                    refine (HAlive.out _).mono ?_
                    rintro e w10 ⟨rfl, hb⟩
                    have HB := Lib.hid (bthen HLw.out hb)
                    clear hb
                    go_wp2
                    go_ret
                    exact ⟨rfl, HB.out⟩
        · clear hvs
          have HB := Lib.hid HDv.out.low
          clear HDv hDj hD1 hdt HE
          go_wp2_with fail
          refine (HAlive.out _).mono ?_
          rintro e w5 ⟨rfl, hb⟩
          replace HB := Lib.hid (bthen HB.out hb)
          clear hb
          go_wp2
          go_ret
          exact ⟨rfl, HB.out⟩
end
end Go.Proofs.YtdndafdninnjfaaGreat
/-
  FlowOnly for any package that answers as the bundles say: the arguments opened, the statement lifted.
-/
namespace Go.Proofs.YtdndafdninnjfaaGreat.flowOnly
open Go.ChangeShapes Go.WideShapes Go.ChangeAt Go.RowKit Go.Deep
set_option linter.unusedVariables false
theorem own : ownKnob Tryz.prog.godebug = none := by kernel_rfl
theorem laidOut : laidOutB Tryz.prog = true := by kernel_rfl
section
variable {FB : World → Nat → (Nat → Prop) → FD → Prop}
set_option maxRecDepth 100000 in
theorem lifted (hT : FWC FB) (hK : KB10 FB) (hRC : RunCap FB) (os : Os) (started : os.Started) (H : Type) (enc : TypeId × Value → H) :
    ReturnsInHanded {} Tryz.checked os 3 .any (Rows.flowOnlySpec.pre6 enc Tryz.prog Tryz.f3 Rows.flowOnlyRow.domain false) (Rows.flowOnlySpec.post enc Tryz.prog Tryz.f3 false true false false) := by
  refine returnsInHanded_of_change (C := Tryz.checked) own started (by kernel_rfl) Tryz.func3
    (ChangeSpec.witness6 (enc := enc) (C := Tryz.checked) false ⟨#[], #[.slice none 0 0, .slice none 0 0, .slice none 0 0], []⟩ 8 (by kernel_rfl) (by kernel_rfl) (by kernel_rfl) (by kernel_rfl)) ?_
  intro W base args ds gs before hval0 hW hcnd _
  have hval : ∀ (j : Nat) t v, Tryz.f3.params[j]? = some t → args[j]? = some v → Value.okWide Tryz.prog W .any base t v := hval0
  have hW' := hW
  obtain ⟨p, q, hA0, hV, rfl, hfz, hnd⟩ := hW
  have hA : DataW.TrodAll enc Tryz.prog W 0 (fun _ => true) true Tryz.f3.params.toList args.toList ds p := hA0
  rw [Tryz.params3] at hA hval
  obtain ⟨v0, vs0, d0, ds0, p0, q0, hargs, rfl, rfl, h0, r0⟩ := trodAll_cons hA
  obtain ⟨v1, vs1, d1, ds1, p1, q1, rfl, rfl, rfl, h1, r1⟩ := trodAll_cons r0
  obtain ⟨v2, vs2, d2, ds2, p2, q2, rfl, rfl, rfl, h2, r2⟩ := trodAll_cons r1
  obtain ⟨rfl, rfl, rfl⟩ := trodAll_nil r2
  obtain rfl : args = #[v0, v1, v2] := by cases args; simp_all
  obtain ⟨rfl, rfl⟩ := trodVars_none hV
  obtain ⟨a0, len0, cap0, rfl⟩ := okWide_slice Tryz.underlying22 (hval 0 22 v0 rfl rfl)
  have k1 := h1
  have lt1 : ∀ x ∈ p1, x.block < W.heap.size := by obtain ⟨m, hm⟩ := k1; exact DataW.trod_lt m _ _ _ hm
  obtain ⟨a1, len1, cap1, ml, e1, mrow, hml⟩ : ∃ a len cap l, v1 = .slice a len cap ∧ NRow W a len l ∧ rgN l := by
    obtain ⟨a, len, cap, rfl⟩ := okWide_slice Tryz.underlying23 (hval 1 23 v1 rfl rfl)
    obtain ⟨fuel, hf⟩ := h1
    obtain ⟨a', len', cap', l, ec, hr⟩ := open_nodes10 (by simpa [Value.cells] using hf)
    simp at ec
    obtain ⟨rfl, rfl, rfl⟩ := ec
    exact ⟨a, len, cap, l, rfl, hr⟩
  subst e1
  have k2 := h2
  have lt2 : ∀ x ∈ p2, x.block < W.heap.size := by obtain ⟨m, hm⟩ := k2; exact DataW.trod_lt m _ _ _ hm
  obtain ⟨a2, len2, cap2, ns, e2, nrow, hns⟩ : ∃ a len cap zs, v2 = .slice a len cap ∧ Row W a len zs ∧ Rgs zs := by
    obtain ⟨a, len, cap, rfl⟩ := okWide_slice Tryz.underlying24 (hval 2 24 v2 rfl rfl)
    obtain ⟨fuel, hf⟩ := h2
    obtain ⟨a', len', cap', zs, ec, hr⟩ := open_ids10 (by simpa [Value.cells] using hf)
    simp at ec
    obtain ⟨rfl, rfl, rfl⟩ := ec
    exact ⟨a, len, cap, zs, rfl, hr⟩
  subst e2
  have k0 := h0
  have lt0 : ∀ x ∈ p0, x.block < W.heap.size := by obtain ⟨m, hm⟩ := k0; exact DataW.trod_lt m _ _ _ hm
  obtain ⟨As, row⟩ : ∃ As, ARow10 W a0 len0 As := by
    obtain ⟨fuel, hf⟩ := h0
    exact open_acts10 (by simpa [Value.cells] using hf)
  clear hA0 hval0
  refine (only10_few hT hK hRC a0 len0 cap0 As a1 len1 cap1 ml a2 len2 cap2 ns W row mrow hml nrow hns).mono fun e W' ⟨he, bel⟩ => ?_
  subst he
  exact ⟨_, rfl, _, _, _, [], _, [], hW', trodAll_mk1 (shut_bool Tryz.underlying4 _), (trodAll_cons_mk (Below.trod laidOut (by kernel_rfl) (of_decide_eq_true (by kernel_rfl)) k0 bel lt0) (trodAll_cons_mk (Below.trod laidOut (by kernel_rfl) (of_decide_eq_true (by kernel_rfl)) k1 bel lt1) (trodAll_cons_mk (Below.trod laidOut (by kernel_rfl) (of_decide_eq_true (by kernel_rfl)) k2 bel lt2) trodAll_mk0))), rfl, bel.frame _, fun h => by cases h⟩

theorem over (hT : FWC FB) (hK : KB10 FB) (hRC : RunCap FB) : Rows.flowOnlyRow.holds Tryz.pinned (OpenSpec.ofChange Rows.flowOnlySpec) :=
  OpenClaim.holds_of_wide 3 Tryz.f3 rfl rfl rfl rfl rfl rfl rfl ⟨rfl, rfl, rfl, rfl, rfl⟩ rfl rfl rfl rfl rfl (by kernel_rfl) Tryz.func3 (by kernel_rfl)
    (of_decide_eq_true (by kernel_rfl)) (by unfold Func.isWrapper; first | (rw [if_pos (by decide +kernel)]; kernel_rfl) | (rw [if_neg (by decide +kernel)]; exact ⟨rfl, rfl⟩))
    (fun os started H enc _ => lifted hT hK hRC os started H enc)
end
end Go.Proofs.YtdndafdninnjfaaGreat.flowOnly
