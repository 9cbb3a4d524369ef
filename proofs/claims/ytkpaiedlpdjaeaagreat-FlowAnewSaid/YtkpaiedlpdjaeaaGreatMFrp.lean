/-
  3 texts in one file, each with its own heading.
-/
import Derived.Test.YtkpaiedlpdjaeaaGreatRows
import Derived.Test.YtkpaiedlpdjaeaaGreatMFrg
import Derived.WalkKit
import Derived.ProofKit
import Derived.OpenShut
import Derived.ShutString
import Derived.ChangeOld
import Derived.Below
import Derived.Deep.Slices
import Derived.Laws.IdiomArrays
/-
  The acts of layer 10 that came in, opened.
-/
namespace Go.Proofs.YtkpaiedlpdjaeaaGreat
open Go.ChangeShapes Go.WideShapes Go.ChangeAt Go.RowKit Go.Deep
set_option linter.unusedVariables false

theorem rg_wf {x : Int} (h : (Lit.int .i64 x).wf = true) : Rg x := by
  have h2 : (decide (IntKind.i64.min ≤ x) && decide (x ≤ IntKind.i64.max)) = true := h
  rw [Bool.and_eq_true, decide_eq_true_eq, decide_eq_true_eq] at h2
  exact h2
instance : Inhabited A10 := ⟨⟨0, none, 0, 0, [], none, 0, 0, []⟩⟩
section
variable {H : Type} {enc : TypeId × Value → H} {w : World} {base : Nat} {held : Bool}
theorem open_ids10 {fuel : Nat} {cs : List Value} {x : DataW H × List MemPlace} (h : DataW.trod enc Tryz.prog w base (fun _ => true) held fuel 29 cs = some x) : ∃ a len cap zs, cs = [.slice a len cap] ∧ Row w a len zs ∧ Rgs zs := by
  rcases open_ints Tryz.underlying29 Tryz.underlying48 (by kernel_rfl) h with ⟨hcs, _⟩ | ⟨ad, l, c, zs, hcs, _, hl, hm, hz, _, hcell, hwz⟩
  · exact ⟨none, 0, 0, [], hcs, ⟨rfl, by omega, .inl rfl⟩, fun x hx => by cases hx⟩
  · unfold maxLen at hm
    simp only [if_true] at hz
    refine ⟨some ad, l, c, zs.take l, hcs, ⟨by rw [List.length_take]; omega, by omega, ?_⟩, fun x hx => rg_wf (hwz x (List.mem_of_mem_take hx))⟩
    by_cases h0 : l = 0
    · exact .inl h0
    · obtain ⟨b, off, spot⟩ := ad
      have hspot : spot = none := by simpa [Addr.add] using World.cell?_spot (hcell 0 (by omega))
      subst hspot
      refine .inr ⟨b, off, rfl, fun i hi => ?_⟩
      have := hcell i (by omega)
      rw [Addr.add_mid] at this
      rw [this]
      simp [hi]
theorem take1_at10 {cs : List Value} {i : Nat} {v : Value} (h : (cs.drop i).take 1 = [v]) : cs[i]? = some v := by
  have e := congrArg (fun l => l[0]?) h
  simpa using e
theorem open_mat10 {fuel : Nat} {cs : List Value} {x : DataW H × List MemPlace} (hl : cs.length = 12) (h : DataW.trod enc Tryz.prog w base (fun _ => true) held fuel 43 cs = some x) : ∃ M : Nat → Int, cs = lM M := by
  obtain ⟨xs, m, _, _, _, hxl, hx⟩ := DataW.trod_array Tryz.underlying43 h
  rw [show Tryz.prog.cellsOf 41 = 1 by kernel_rfl] at hx
  obtain ⟨M, hM⟩ := choose_lt (α := Int) (n := 12) (p := fun i v => cs[i]? = some (.int .i64 v)) (fun i hi => by
    have e0 : xs[i]? = some (xs[i]'(by omega)) := List.getElem?_eq_getElem (by omega)
    obtain ⟨v, ev, _, wv⟩ := DataW.trod_int Tryz.underlying41 ((hx i hi).trans e0)
    rw [Nat.mul_one] at ev
    exact ⟨v, take1_at10 ev⟩)
  refine ⟨M, ?_⟩
  match cs, hl with
  | [c0, c1, c2, c3, c4, c5, c6, c7, c8, c9, c10, c11], _ =>
    have h0 := hM 0 (by omega)
    have h1 := hM 1 (by omega)
    have h2 := hM 2 (by omega)
    have h3 := hM 3 (by omega)
    have h4 := hM 4 (by omega)
    have h5 := hM 5 (by omega)
    have h6 := hM 6 (by omega)
    have h7 := hM 7 (by omega)
    have h8 := hM 8 (by omega)
    have h9 := hM 9 (by omega)
    have h10 := hM 10 (by omega)
    have h11 := hM 11 (by omega)
    simp at h0 h1 h2 h3 h4 h5 h6 h7 h8 h9 h10 h11
    rw [h0, h1, h2, h3, h4, h5, h6, h7, h8, h9, h10, h11]
    rfl
theorem node_open10 {fuel : Nat} {cs : List Value} {x : DataW H × List MemPlace} (hl : cs.length = 15) (h : DataW.trod enc Tryz.prog w base (fun _ => true) held fuel 64 cs = some x) : ∃ n : Nd, cs = cNd n ∧ Rg n.id ∧ Rg n.par := by
  obtain ⟨xs, n, _, _, _, hxl, hx⟩ := DataW.trod_struct Tryz.underlying64 h
  have hxl2 : xs.length = 4 := hxl
  have hc0 : Tryz.prog.cellsOf 48 = 1 := by kernel_rfl
  have f0 : DataW.trod enc Tryz.prog w base (fun _ => true) held n 48 ((cs.drop 0).take 1) = some (xs[0]'(by omega)) := by
    have := (hx 0 _ rfl).trans (List.getElem?_eq_getElem (show 0 < xs.length by omega))
    exact (congrArg (fun c => DataW.trod enc Tryz.prog w base (fun _ => true) held n 48 ((cs.drop 0).take c)) hc0.symm).trans this
  have f1 : DataW.trod enc Tryz.prog w base (fun _ => true) held n 48 ((cs.drop 1).take 1) = some (xs[1]'(by omega)) := by
    have := (hx 1 _ rfl).trans (List.getElem?_eq_getElem (show 1 < xs.length by omega))
    exact (congrArg (fun c => DataW.trod enc Tryz.prog w base (fun _ => true) held n 48 ((cs.drop 1).take c)) hc0.symm).trans this
  have hc2 : Tryz.prog.cellsOf 43 = 12 := by kernel_rfl
  have f2 : DataW.trod enc Tryz.prog w base (fun _ => true) held n 43 ((cs.drop 2).take 12) = some (xs[2]'(by omega)) := by
    have := (hx 2 _ rfl).trans (List.getElem?_eq_getElem (show 2 < xs.length by omega))
    exact (congrArg (fun c => DataW.trod enc Tryz.prog w base (fun _ => true) held n 43 ((cs.drop 2).take c)) hc2.symm).trans this
  have hc3 : Tryz.prog.cellsOf 4 = 1 := by kernel_rfl
  have f3 : DataW.trod enc Tryz.prog w base (fun _ => true) held n 4 ((cs.drop 14).take 1) = some (xs[3]'(by omega)) := by
    have := (hx 3 _ rfl).trans (List.getElem?_eq_getElem (show 3 < xs.length by omega))
    exact (congrArg (fun c => DataW.trod enc Tryz.prog w base (fun _ => true) held n 4 ((cs.drop 14).take c)) hc3.symm).trans this
  obtain ⟨v0, e0, _, w0⟩ := DataW.trod_int Tryz.underlying48 f0
  obtain ⟨v1, e1, _, w1⟩ := DataW.trod_int Tryz.underlying48 f1
  obtain ⟨M, hM⟩ := open_mat10 (by rw [List.length_take, List.length_drop]; omega) f2
  obtain ⟨v3, e3, _⟩ := DataW.trod_bool Tryz.underlying4 f3
  refine ⟨⟨v0, v1, M, v3⟩, ?_, rg_wf w0, rg_wf w1⟩
  have d0 : cs = (cs.drop 0).take 1 ++ ((cs.drop 1).take 1 ++ ((cs.drop 2).take 12 ++ (cs.drop 14).take 1)) := by
    have a5 : (cs.drop 14).take 1 = cs.drop 14 := List.take_of_length_le (by rw [List.length_drop]; omega)
    have st : ∀ o k, (cs.drop o).take k ++ cs.drop (o + k) = cs.drop o := fun o k => by
      have := List.take_append_drop k (cs.drop o)
      rwa [List.drop_drop] at this
    rw [a5, st 2 12, st 1 1, st 0 1, List.drop_zero]
  rw [d0, e0, e1, hM, e3]
  rfl
theorem open_nodes10 {fuel : Nat} {cs : List Value} {x : DataW H × List MemPlace} (h : DataW.trod enc Tryz.prog w base (fun _ => true) held fuel 34 cs = some x) : ∃ a len cap l, cs = [.slice a len cap] ∧ NRow w a len l ∧ rgN l := by
  rcases open_slice Tryz.underlying34 h with ⟨hcs, _⟩ | ⟨ad, len, c, m, n, D, Pl, hcs, _, hlc, hm, hmm, _, hi⟩
  · exact ⟨none, 0, 0, [], hcs, ⟨rfl, by omega, .inl rfl⟩, fun x hx => by cases hx⟩
  · unfold maxLen at hm
    have hC : Tryz.prog.cellsOf 64 = 15 := by kernel_rfl
    rw [hC] at hi
    simp only [if_true] at hmm
    subst hmm
    obtain ⟨V, hV⟩ := choose_lt (α := Nd) (n := len) (p := fun i x => (∀ j v, (cNd x)[j]? = some v → w.cell? ((ad.add (i * 15)).add j) = some v) ∧ Rg x.id ∧ Rg x.par) (fun i hil => by
      obtain ⟨cs', hc, ht⟩ := hi i (by omega)
      obtain ⟨_, hlen, hat⟩ := World.cells?_some hc
      obtain ⟨x, hx, hb⟩ := node_open10 hlen ht
      refine ⟨x, fun j v hv => ?_, hb⟩
      have hj : j < 15 := by have := (List.getElem?_eq_some_iff.1 hv).1; rw [cNd_len] at this; exact this
      rw [hat j hj, hx]
      exact hv)
    refine ⟨some ad, len, _, (List.range len).map V, hcs, ⟨by simp, by omega, ?_⟩, fun x hx => ?_⟩
    · by_cases h0 : len = 0
      · exact .inl h0
      · obtain ⟨b, off, spot⟩ := ad
        have c0 := (hV 0 (by omega)).1 0 _ rfl
        have hspot : spot = none := by simpa [Addr.add] using World.cell?_spot c0
        subst hspot
        have hb : b < w.heap.size := by
          have := World.block_lt_of_cell? _ _ c0
          simpa [add_plain] using this
        refine .inr ⟨b, off, rfl, hb, fun i x hx => ?_⟩
        have hil : i < len := by have := (List.getElem?_eq_some_iff.1 hx).1; simpa using this
        have e : V i = x := by
          rw [List.getElem?_map, List.getElem?_range hil] at hx
          simpa using hx
        rw [← e]
        intro j v hv
        have := (hV i hil).1 j v hv
        simpa only [add_plain] using this
    · obtain ⟨i, hi2, e⟩ := List.mem_map.1 hx
      rw [← e]
      exact (hV i (List.mem_range.1 hi2)).2
theorem act_open10 {fuel : Nat} {cs : List Value} {x : DataW H × List MemPlace} (hl : cs.length = 3) (h : DataW.trod enc Tryz.prog w base (fun _ => true) held fuel 36 cs = some x) : ∃ a : A10, cs = c10 a ∧ ok10 w a := by
  obtain ⟨xs, n, _, _, _, hxl, hx⟩ := DataW.trod_struct Tryz.underlying36 h
  have hxl2 : xs.length = 3 := hxl
  have hc0 : Tryz.prog.cellsOf 5 = 1 := by kernel_rfl
  have f0 : DataW.trod enc Tryz.prog w base (fun _ => true) held n 5 ((cs.drop 0).take 1) = some (xs[0]'(by omega)) := by
    have := (hx 0 _ rfl).trans (List.getElem?_eq_getElem (show 0 < xs.length by omega))
    exact (congrArg (fun c => DataW.trod enc Tryz.prog w base (fun _ => true) held n 5 ((cs.drop 0).take c)) hc0.symm).trans this
  have hc1 : Tryz.prog.cellsOf 34 = 1 := by kernel_rfl
  have f1 : DataW.trod enc Tryz.prog w base (fun _ => true) held n 34 ((cs.drop 1).take 1) = some (xs[1]'(by omega)) := by
    have := (hx 1 _ rfl).trans (List.getElem?_eq_getElem (show 1 < xs.length by omega))
    exact (congrArg (fun c => DataW.trod enc Tryz.prog w base (fun _ => true) held n 34 ((cs.drop 1).take c)) hc1.symm).trans this
  have hc2 : Tryz.prog.cellsOf 29 = 1 := by kernel_rfl
  have f2 : DataW.trod enc Tryz.prog w base (fun _ => true) held n 29 ((cs.drop 2).take 1) = some (xs[2]'(by omega)) := by
    have := (hx 2 _ rfl).trans (List.getElem?_eq_getElem (show 2 < xs.length by omega))
    exact (congrArg (fun c => DataW.trod enc Tryz.prog w base (fun _ => true) held n 29 ((cs.drop 2).take c)) hc2.symm).trans this
  obtain ⟨v0, e0, _, w0⟩ := DataW.trod_int Tryz.underlying5 f0
  obtain ⟨na, nl, nc, ns, e1, hrow1, hrg1⟩ := open_nodes10 f1
  obtain ⟨ka, kl, kc, ks, e2, hrow, hrg⟩ := open_ids10 f2
  refine ⟨⟨v0, na, nl, nc, ns, ka, kl, kc, ks⟩, ?_, (bounds_u8 w0).1, (bounds_u8 w0).2, ⟨hrow1, hrg1⟩, hrow, hrg⟩
  have d0 : cs = (cs.drop 0).take 1 ++ ((cs.drop 1).take 1 ++ (cs.drop 2).take 1) := by
    have a5 : (cs.drop 2).take 1 = cs.drop 2 := List.take_of_length_le (by rw [List.length_drop]; omega)
    have st : ∀ o k, (cs.drop o).take k ++ cs.drop (o + k) = cs.drop o := fun o k => by
      have := List.take_append_drop k (cs.drop o)
      rwa [List.drop_drop] at this
    rw [a5, st 1 1, st 0 1, List.drop_zero]
  rw [d0, e0, e1, e2]
  rfl
theorem open_acts10 {fuel : Nat} {a : Option Addr} {len cap : Nat} {x : DataW H × List MemPlace} (h : DataW.trod enc Tryz.prog w base (fun _ => true) held fuel 22 [.slice a len cap] = some x) : ∃ As, ARow10 w a len As := by
  rcases open_slice Tryz.underlying22 h with ⟨hcs, _⟩ | ⟨ad, l, c, m, n, D, Pl, hcs, _, hlc, hm, hmm, _, hi⟩
  · simp at hcs
    obtain ⟨rfl, rfl, rfl⟩ := hcs
    exact ⟨[], rfl, by omega, .inl rfl⟩
  · simp at hcs
    obtain ⟨rfl, rfl, rfl⟩ := hcs
    unfold maxLen at hm
    have hC : Tryz.prog.cellsOf 36 = 3 := by kernel_rfl
    rw [hC] at hi
    simp only [if_true] at hmm
    subst hmm
    obtain ⟨V, hV⟩ := choose_lt (α := A10) (n := len) (p := fun i x => (∀ j v, (c10 x)[j]? = some v → w.cell? ((ad.add (i * 3)).add j) = some v) ∧ ok10 w x) (fun i hil => by
      obtain ⟨cs', hc, ht⟩ := hi i (by omega)
      obtain ⟨_, hlen, hat⟩ := World.cells?_some hc
      obtain ⟨x, hx, hb⟩ := act_open10 hlen ht
      refine ⟨x, fun j v hv => ?_, hb⟩
      have hj : j < 3 := by have := (List.getElem?_eq_some_iff.1 hv).1; rw [c10_len] at this; exact this
      rw [hat j hj, hx]
      exact hv)
    refine ⟨(List.range len).map V, by simp, by omega, ?_⟩
    by_cases h0 : len = 0
    · exact .inl h0
    · obtain ⟨b, off, spot⟩ := ad
      have c0 := (hV 0 (by omega)).1 0 _ rfl
      have hspot : spot = none := by simpa [Addr.add] using World.cell?_spot c0
      subst hspot
      have hb : b < w.heap.size := by
        have := World.block_lt_of_cell? _ _ c0
        simpa [add_plain] using this
      refine .inr ⟨b, off, rfl, hb, fun i x hx => ?_⟩
      have hil : i < len := by have := (List.getElem?_eq_some_iff.1 hx).1; simpa using this
      have e : V i = x := by
        rw [List.getElem?_map, List.getElem?_range hil] at hx
        simpa using hx
      rw [← e]
      refine ⟨fun j v hv => ?_, (hV i hil).2⟩
      have := (hV i hil).1 j v hv
      simpa only [add_plain] using this
end
end Go.Proofs.YtkpaiedlpdjaeaaGreat
/-
  FlowAnew for any package that answers as the bundle says: the walk.
-/
namespace Go.Proofs.YtkpaiedlpdjaeaaGreat
open Go.RowKit

set_option maxHeartbeats 2000000 in
set_option maxRecDepth 10000 in
/-- a told state equals itself -/
theorem eqFs (s : Stt) (w : World) : (Op.equalIn 10000 45 (.agg (cFs s).toArray) (.agg (cFs s).toArray)).run Tryz.prog w = .ok true w := by
  have hM : ∀ n w, (Op.equalIn (n + 1 + 1) 43 (.agg #[.int .i64 (s.wo 0), .int .i64 (s.wo 1), .int .i64 (s.wo 2), .int .i64 (s.wo 3), .int .i64 (s.wo 4), .int .i64 (s.wo 5), .int .i64 (s.wo 6), .int .i64 (s.wo 7), .int .i64 (s.wo 8), .int .i64 (s.wo 9), .int .i64 (s.wo 10), .int .i64 (s.wo 11)]) (.agg #[.int .i64 (s.wo 0), .int .i64 (s.wo 1), .int .i64 (s.wo 2), .int .i64 (s.wo 3), .int .i64 (s.wo 4), .int .i64 (s.wo 5), .int .i64 (s.wo 6), .int .i64 (s.wo 7), .int .i64 (s.wo 8), .int .i64 (s.wo 9), .int .i64 (s.wo 10), .int .i64 (s.wo 11)])).run Tryz.prog w = .ok true w := fun n w => (eqMatB n _ _ _ _ _ _ _ _ _ _ _ _ _ _ _ _ _ _ _ _ _ _ _ _ w).trans (by simp)
  have a1 := Tryz.isAgg43
  have z1 := Tryz.sizeOf43
  have u5 := Tryz.underlying4
  have a5 := Tryz.isAgg4
  have z5 := Tryz.sizeOf4
  unfold cFs
  rw [show (10000 : Nat) = 9997 + 1 + 1 + 1 from rfl, Op.equalIn]
  simp only [Sem.run_bind, run_underlying Tryz.underlying45, Result.andThen_ok]
  go_simp
/-! behind a run -/
theorem touch_run {D : FD} (h : runE D = 0) : touchN (runD D) = [] := by
  have hb : (runD D).begun = true := decide_eq_true h
  unfold touchN dirtyN
  rw [if_pos hb]
  rfl
theorem state_some {D : FD} (hD : DOk D) (h : runE D = 0) {x : Int} (hx : (elF Nd.id D.L x).isSome = true) : (stateN (runD D) x).isSome = true := by
  have hb : (runD D).begun = true := decide_eq_true h
  have ht : x ∉ touchN (runD D) := by rw [touch_run h]; exact List.not_mem_nil
  obtain ⟨s, _, hs⟩ := hD.run.st hb x hx ht
  unfold stateN
  rw [if_pos ⟨hb, ht, hx⟩, hs]
  rfl
theorem state_none {D : FD} (h : ¬ runE D = 0) (x : Int) : (stateN (runD D) x).isSome = false := by
  have hb : (runD D).begun = false := decide_eq_false h
  unfold stateN
  rw [if_neg (fun c => by rw [hb] at c; cases c.1)]
  rfl
theorem state_is {D : FD} (hD : DOk D) {x : Int} (hx : x ∈ namesN D.L) : (stateN (runD D) x).isSome = decide (runE D = 0) := by
  by_cases h : runE D = 0
  · rw [state_some hD h (mem_names.1 hx), decide_eq_true h]
  · rw [state_none h, decide_eq_false h]
theorem state_like {D D' : FD} (h : D'.L = D.L) (x : Int) : stateN (runD D') x = stateN (runD D) x := by
  obtain ⟨L, d, b, s, n⟩ := D
  obtain ⟨L', d', b', s', n'⟩ := D'
  obtain rfl : L' = L := h
  rfl
section
variable {FB : World → Nat → (Nat → Prop) → FD → Prop}
set_option maxHeartbeats 4000000 in
set_option maxRecDepth 100000 in
theorem anew10_few (hC : FWC FB) (hK : KB10 FB) (a : Option Addr) (len cap : Nat) (As : List A10) (w : World) (row : ARow10 w a len As) :
    Calls Tryz.prog 4 #[.slice a len cap] w fun e w' => e = .returned (.bool true) ∧ Below w.heap.size w w' := by
  have HFits := Lib.hid (fits10_any a len cap As w row)
  have HAlive := Lib.hid (alive10_any hC)
  have HRow := Lib.hid row
  have hbig := row.2.1
  have HNew := Lib.hid hC.new
  clear row
  go_enter Tryz.func4, Tryz.ntmps4
  go_wp2_with fail
  refine HFits.out.mono ?_
  rintro e w1 ⟨fb, rfl, hfit, hb1⟩
  have HFit := Lib.hid hfit
  have HB1 := Lib.hid hb1
  clear hfit hb1 HFits
  cases fb with
  | false =>
    go_wp2_with fail
    refine (HAlive.out _).mono ?_
    rintro e w2 ⟨rfl, hb⟩
    have HB := Lib.hid (bthen HB1.out hb)
    clear hb
    go_wp2
    go_ret
    exact ⟨rfl, HB.out⟩
  | true =>
    obtain ⟨hlen, hall⟩ := HFit.out rfl
    have HAll := Lib.hid hall
    clear hall HFit
    go_wp2_with fail
    refine (HNew.out w1).mono ?_
    rintro e w2 ⟨gp, Fp0, rfl, hf, hF, hb⟩
    have HD0 := Lib.hid (Duo10.new hC hf (fun b c => Nat.le_trans HB1.out.size (hF b c)) (bthen HB1.out hb))
    obtain ⟨gr, hgr⟩ : ∃ gr, gr = w2.heap.size := ⟨_, rfl⟩
    clear hf hF hb
    go_upto_region 6 with fail
    refine fin (fun W => ∃ Fq0, Duo10 FB RWB w W gp gr Fp0 Fq0 FD0 FD0) ⟨_, by rw [hgr]; exact HD0.out⟩ ?_
    rw [← hgr]
    clear HD0 hgr HB1
    rintro W0 hd0
    have HD0 := Lib.hid hd0
    clear hd0
    go_wp2
    go_loopw [6] (fun i wr => ∃ j : Nat, j ≤ len ∧ i = .int .i64 j ∧ ∃ Fp Fq, Duo10 FB RWB w wr gp gr Fp Fq (Dk As j) (Dk As j)) (fun i _ => len - (ivl i).toNat)
    case atStart =>
      obtain ⟨Fq0, hd⟩ := HD0.out
      exact ⟨0, by omega, rfl, Fp0, Fq0, hd⟩
    case round =>
      clear HD0
      obtain ⟨j, hj, rfl, Fp, Fq, hd⟩ := hrel
      have HD := Lib.hid hd
      clear hd
      by_cases hlt : j < len
      · obtain ⟨b, off, x, rfl, hx, hr, hok⟩ := (HRow.out.keep HD.out.low).at_ hlt
        have cx0 : wr.cell? ⟨b, off + j * 3, none⟩ = some (.int .u8 x.k) := hr 0 _ rfl
        have cx1 : wr.cell? ⟨b, off + j * 3 + 1, none⟩ = some (.slice x.a x.n x.cap) := hr 1 _ rfl
        have cx2 : wr.cell? ⟨b, off + j * 3 + 2, none⟩ = some (.slice x.b x.m x.cap') := hr 2 _ rfl
        have hbl := World.block_lt_of_cell? _ _ cx0
        obtain ⟨b', off', x', e', hx', _, hok'⟩ := HRow.out.at_ hlt
        have exx : x' = x := by rw [hx] at hx'; injection hx' with q; exact q.symm
        subst exx
        obtain ⟨hDj, hBj⟩ := Dk_all HRow.out HAll.out j hj
        have a1 := HAll.out j hj
        have a2 := HAll.out (j + 1) (by omega)
        rw [suA_step hx] at a2
        have b1 := hBj.l
        have b2 := hBj.d
        have b3 := hBj.s
        have b6 : x'.m * (Dk As j).L.length ≤ x'.m * 80 := Nat.mul_le_mul_left _ (by omega)
        have HSt := Lib.hid (step10_any hC hK gc_rwb HD.out hDj x' (fun _ => gr_rwb) hok' (by omega) (by omega) (by omega) (by omega) (by omega))
        rw [← Dk_succ hx] at HSt
        have k0 : (0 : Int) ≤ (j : Int) := by omega
        have k1 : (j : Int) < (len : Int) := by omega
        obtain ⟨xk, hxk⟩ : ∃ xk, xk = x'.k := ⟨_, rfl⟩
        obtain ⟨xa, hxa⟩ : ∃ xa, xa = x'.a := ⟨_, rfl⟩
        obtain ⟨xn, hxnn⟩ : ∃ xn, xn = x'.n := ⟨_, rfl⟩
        obtain ⟨xc, hxc⟩ : ∃ xc, xc = x'.cap := ⟨_, rfl⟩
        obtain ⟨xb, hxb⟩ : ∃ xb, xb = x'.b := ⟨_, rfl⟩
        obtain ⟨xm, hxm⟩ : ∃ xm, xm = x'.m := ⟨_, rfl⟩
        obtain ⟨xd, hxd⟩ : ∃ xd, xd = x'.cap' := ⟨_, rfl⟩
        rw [← hxk] at cx0 HSt
        rw [← hxa, ← hxnn, ← hxc] at cx1 HSt
        rw [← hxb, ← hxm, ← hxd] at cx2 HSt
        clear hx hr hok hok' hx' hxk hxa hxnn hxc hxb hxm hxd e' hDj hBj a1 a2 b1 b2 b3 b6
        go_wp2_with fail
        refine HSt.out.mono ?_
        rintro e w3 ⟨rfl, Fp1, Fq1, hd⟩
        have HD1 := Lib.hid hd
        clear hd HSt HD cx0 cx1 cx2 hbl
        go_wp2
        go_roundw
        case rel => exact ⟨j + 1, by omega, by go_num, Fp1, Fq1, HD1.out⟩
        case measure => simp [ivl] <;> omega
      · obtain rfl : j = len := by omega
        have j1 : ¬ (j : Int) < (j : Int) := by omega
        obtain ⟨hDj, hBj⟩ := Dk_all HRow.out HAll.out j (Nat.le_refl _)
        have a1 := HAll.out j (Nat.le_refl _)
        have b1 := hBj.l
        have b3 := hBj.s
        obtain ⟨D, hDD⟩ : ∃ D, D = Dk As j := ⟨_, rfl⟩
        rw [← hDD] at HD hDj b1 b3
        have hl80 : D.L.length ≤ 80 := by omega
        have hs80 : D.steps ≤ 2400 := by omega
        have hdt := touch_len hDj.wf
        obtain ⟨p0, p1⟩ := anew_ok hDj
        obtain ⟨D2, hD2⟩ : ∃ D2, D2 = putFD FD0 D.L := ⟨_, rfl⟩
        have hD2L : D2.L = D.L := by rw [hD2, p1]
        have hD2k : DOk D2 := by rw [hD2]; exact DOk.zero.put hDj.rg
        have hD2s : D2.steps = 0 := by rw [hD2, p1]; rfl
        have hE2 : runE D2 = runE D := by unfold runE; rw [hD2L]
        obtain ⟨E, hE⟩ : ∃ E, E = runE D := ⟨_, rfl⟩
        obtain ⟨K, hKn⟩ : ∃ K, K = namesN D.L := ⟨_, rfl⟩
        obtain ⟨n, hn⟩ : ∃ n, n = D.L.length := ⟨_, rfl⟩
        have hKl : K.length = n := by rw [hKn, hn]; exact names_len _
        -- the new one
        have HNw : Hid (Calls Tryz.prog 8 #[] wr fun e w' => ∃ g2 F2, e = .returned (.pointer (some ⟨g2, 0, none⟩)) ∧ Duo10 FB FB w w' gp g2 Fp F2 D FD0 ∧ RWB w' gr Fq D) := Lib.hid ((hC.new wr).mono fun e w' ⟨g2, F2, h1, h2, h3, h4⟩ => ⟨g2, F2, h1, ⟨hK.keep HD.out.p h4, h2, fun b q1 q2 => by
          have c1 := hK.inb _ _ _ _ HD.out.p b q1
          have c2 := h3 b q2
          omega, bthen HD.out.low h4, HD.out.np, fun b q => Nat.le_trans HD.out.low.size (h3 b q)⟩, kb_rwb.keep HD.out.q h4⟩)
        have HNd : Hid (∀ u g2 F2, Duo10 FB FB w u gp g2 Fp F2 D FD0 → RWB u gr Fq D → Calls Tryz.prog 17 #[.pointer (some ⟨gr, 0, none⟩)] u fun e w' => ∃ av cv, e = .returned (.slice av n cv) ∧ NRow w' av n D.L ∧ Duo10 FB FB w w' gp g2 Fp F2 D FD0) := Lib.hid (fun u g2 F2 d q => by
          obtain ⟨vl, vd, vs, h1, _⟩ := q
          refine (lnodes_any h1 (by omega)).mono ?_
          rintro e w' ⟨v, rfl, o, hb⟩
          obtain ⟨av, cv, ev, _, _, rv⟩ := o.row cNd_len
          rw [ev, hn]
          exact ⟨av, cv, rfl, rv, d.keep hK hK hb⟩)
        have HPt : Hid (∀ u g2 F2 av cv, NRow u av n D.L → Duo10 FB FB w u gp g2 Fp F2 D FD0 → Calls Tryz.prog 13 #[.pointer (some ⟨g2, 0, none⟩), .slice av n cv] u fun e w' => e = .returned (.int .i64 0) ∧ ∃ F2', Duo10 FB FB w w' gp g2 Fp F2' D D2) := Lib.hid (fun u g2 F2 av cv r d => (hC.put u g2 F2 FD0 av n cv D.L DOk.zero (by show 0 ≤ 300; omega) d.q (by omega) r hDj.rg).mono fun e w' ⟨q1, q2⟩ => by
          obtain ⟨F2', k1, _⟩ := d.ref hK q2
          rw [p0] at q1
          rw [← hD2] at k1
          exact ⟨q1, F2', k1⟩)
        have HR1 : Hid (∀ u g2 F2, Duo10 FB FB w u gp g2 Fp F2 D D2 → Calls Tryz.prog 11 #[.pointer (some ⟨gp, 0, none⟩)] u fun e w' => ∃ v, e = .returned (.tuple #[v, .int .i64 E]) ∧ ∃ Fp', Duo10 FB FB w w' gp g2 Fp' F2 (runD D) D2) := Lib.hid (fun u g2 F2 d => (hC.run u gp Fp D hDj (by omega) (by omega) d.p).mono fun e w' ⟨v, q1, _, q3⟩ => by
          obtain ⟨Fp', k1, _⟩ := d.prog hK q3.toX
          exact ⟨v, by rw [q1, hE], Fp', k1⟩)
        have HR2 : Hid (∀ u g2 Fp' F2, Duo10 FB FB w u gp g2 Fp' F2 (runD D) D2 → Calls Tryz.prog 11 #[.pointer (some ⟨g2, 0, none⟩)] u fun e w' => ∃ v, e = .returned (.tuple #[v, .int .i64 E]) ∧ ∃ F2', Duo10 FB FB w w' gp g2 Fp' F2' (runD D) (runD D2)) := Lib.hid (fun u g2 Fp' F2 d => (hC.run u g2 F2 D2 hD2k (by rw [hD2L]; omega) (by omega) d.q).mono fun e w' ⟨v, q1, _, q3⟩ => by
          obtain ⟨F2', k1, _⟩ := d.ref hK q3.toX
          exact ⟨v, by rw [q1, hE, hE2], F2', k1⟩)
        have hRk : DOk (runD D) := hDj.run
        have hRk2 : DOk (runD D2) := hD2k.run
        have hRl : (runD D).L.length ≤ 300 := by show D.L.length ≤ 300; omega
        have hRl2 : (runD D2).L.length ≤ 300 := by show D2.L.length ≤ 300; rw [hD2L]; omega
        have hRs : (runD D).steps ≤ 1000000 := by show D.steps + (touchN D).length ≤ _; omega
        have HN1 : Hid (∀ u g2 Fp' F2, Duo10 FB FB w u gp g2 Fp' F2 (runD D) (runD D2) → Calls Tryz.prog 16 #[.pointer (some ⟨gp, 0, none⟩)] u fun e w' => ∃ a cap, e = .returned (.slice a n cap) ∧ Row w' a n K ∧ Duo10 FB FB w w' gp g2 Fp' F2 (runD D) (runD D2)) := Lib.hid (fun u g2 Fp' F2 d => by
          refine (hC.nodes u gp Fp' (runD D) hRk hRl d.p).mono ?_
          rintro e w' ⟨v, rfl, ⟨a, c, rfl, r, _⟩, hb⟩
          have r' : Row w' a (namesN D.L).length (namesN D.L) := r
          have e1 : (.slice a (namesN (runD D).L).length c : Value) = .slice a n c := by rw [← hKl, hKn]; rfl
          rw [← hKn, hKl] at r'
          exact ⟨a, c, by rw [e1], r', d.keep hK hK hb⟩)
        have HN2 : Hid (∀ u g2 Fp' F2, Duo10 FB FB w u gp g2 Fp' F2 (runD D) (runD D2) → Calls Tryz.prog 16 #[.pointer (some ⟨g2, 0, none⟩)] u fun e w' => ∃ a cap, e = .returned (.slice a n cap) ∧ Row w' a n K ∧ Below u.heap.size u w') := Lib.hid (fun u g2 Fp' F2 d => by
          refine (hC.nodes u g2 F2 (runD D2) hRk2 hRl2 d.q).mono ?_
          rintro e w' ⟨v, rfl, ⟨a, c, rfl, r, _⟩, hb⟩
          have r' : Row w' a (namesN D2.L).length (namesN D2.L) := r
          have e1 : (.slice a (namesN (runD D2).L).length c : Value) = .slice a n c := by rw [← hKl, hKn, ← hD2L]; rfl
          rw [hD2L, ← hKn, hKl] at r'
          exact ⟨a, c, by rw [e1], r', hb⟩)
        have HS1 : Hid (∀ u g2 Fp' F2 x, Duo10 FB FB w u gp g2 Fp' F2 (runD D) (runD D2) → Rg x → Calls Tryz.prog 12 #[.pointer (some ⟨gp, 0, none⟩), .int .i64 x] u fun e w' => e = .returned (.tuple #[.agg (cFs ((stateN (runD D) x).getD zSt)).toArray, .bool (stateN (runD D) x).isSome]) ∧ Below u.heap.size u w') := Lib.hid (fun u g2 Fp' F2 x d hx => (hC.state u gp Fp' (runD D) x hRk hRl d.p hx).mono fun e w' ⟨Y, k1, k2, k3⟩ => ⟨by rw [k1, k2], k3⟩)
        have HS2 : Hid (∀ u g2 Fp' F2 x, Duo10 FB FB w u gp g2 Fp' F2 (runD D) (runD D2) → Rg x → Calls Tryz.prog 12 #[.pointer (some ⟨g2, 0, none⟩), .int .i64 x] u fun e w' => e = .returned (.tuple #[.agg (cFs ((stateN (runD D) x).getD zSt)).toArray, .bool (stateN (runD D) x).isSome]) ∧ Below u.heap.size u w') := Lib.hid (fun u g2 Fp' F2 x d hx => (hC.state u g2 F2 (runD D2) x hRk2 hRl2 d.q hx).mono fun e w' ⟨Y, k1, k2, k3⟩ => ⟨by rw [k1, k2, state_like hD2L], k3⟩)
        have HIs : Hid (∀ x ∈ K, (stateN (runD D) x).isSome = decide (E = 0) ∧ Rg x) := Lib.hid (fun x hx => by
          rw [hKn] at hx
          rw [hE]
          exact ⟨state_is hDj hx, names_rg hDj x hx⟩)
        have HR3 : Hid (∀ u g2 Fp' F2, Duo10 FB FB w u gp g2 Fp' F2 (runD D) (runD D2) → Calls Tryz.prog 11 #[.pointer (some ⟨gp, 0, none⟩)] u fun e w' => ∃ (va : Option Addr) (tl vc : Nat), e = .returned (.tuple #[.slice va tl vc, .int .i64 E]) ∧ (E = 0 → tl = 0) ∧ Below w.heap.size w w') := Lib.hid (fun u g2 Fp' F2 d => (hC.run u gp Fp' (runD D) hRk hRl hRs d.p).mono fun e w' ⟨v, q1, ⟨va, vc, ev, _, _⟩, q3⟩ => by
          obtain ⟨Fp2, k1, _⟩ := d.prog hK q3.toX
          have e2 : runE (runD D) = E := by rw [hE]; rfl
          exact ⟨va, _, vc, by rw [q1, ev, e2], fun c => by rw [touch_run (by rw [← hE]; exact c)]; rfl, k1.low⟩)
        have HKp : Hid (∀ u u' g2 Fp' F2, Duo10 FB FB w u gp g2 Fp' F2 (runD D) (runD D2) → Below u.heap.size u u' → Duo10 FB FB w u' gp g2 Fp' F2 (runD D) (runD D2)) := Lib.hid (fun u u' g2 Fp' F2 d q => d.keep hK hK q)
        obtain ⟨L, hL⟩ : ∃ L, L = D.L := ⟨_, rfl⟩
        rw [← hL] at HNd HPt
        obtain ⟨P1, hP1⟩ : ∃ P : World → Nat → (Nat → Prop) → (Nat → Prop) → Prop, P = fun u g2 Fp' F2 => Duo10 FB FB w u gp g2 Fp' F2 (runD D) (runD D2) := ⟨_, rfl⟩
        obtain ⟨T, hT⟩ : ∃ T : Int → Option Stt, T = fun x => stateN (runD D) x := ⟨_, rfl⟩
        have HR2' : Hid (∀ u g2 Fp' F2, Duo10 FB FB w u gp g2 Fp' F2 (runD D) D2 → Calls Tryz.prog 11 #[.pointer (some ⟨g2, 0, none⟩)] u fun e w' => ∃ v, e = .returned (.tuple #[v, .int .i64 E]) ∧ ∃ F2', P1 w' g2 Fp' F2') := by rw [hP1]; exact HR2
        have HN1' : Hid (∀ u g2 Fp' F2, P1 u g2 Fp' F2 → Calls Tryz.prog 16 #[.pointer (some ⟨gp, 0, none⟩)] u fun e w' => ∃ a cap, e = .returned (.slice a n cap) ∧ Row w' a n K ∧ P1 w' g2 Fp' F2) := by rw [hP1]; exact HN1
        have HN2' : Hid (∀ u g2 Fp' F2, P1 u g2 Fp' F2 → Calls Tryz.prog 16 #[.pointer (some ⟨g2, 0, none⟩)] u fun e w' => ∃ a cap, e = .returned (.slice a n cap) ∧ Row w' a n K ∧ Below u.heap.size u w') := by rw [hP1]; exact HN2
        have HS1' : Hid (∀ u g2 Fp' F2 x, P1 u g2 Fp' F2 → Rg x → Calls Tryz.prog 12 #[.pointer (some ⟨gp, 0, none⟩), .int .i64 x] u fun e w' => e = .returned (.tuple #[.agg (cFs ((T x).getD zSt)).toArray, .bool (T x).isSome]) ∧ Below u.heap.size u w') := by rw [hP1, hT]; exact HS1
        have HS2' : Hid (∀ u g2 Fp' F2 x, P1 u g2 Fp' F2 → Rg x → Calls Tryz.prog 12 #[.pointer (some ⟨g2, 0, none⟩), .int .i64 x] u fun e w' => e = .returned (.tuple #[.agg (cFs ((T x).getD zSt)).toArray, .bool (T x).isSome]) ∧ Below u.heap.size u w') := by rw [hP1, hT]; exact HS2
        have HIs' : Hid (∀ x ∈ K, (T x).isSome = decide (E = 0) ∧ Rg x) := by rw [hT]; exact HIs
        have HR3' : Hid (∀ u g2 Fp' F2, P1 u g2 Fp' F2 → Calls Tryz.prog 11 #[.pointer (some ⟨gp, 0, none⟩)] u fun e w' => ∃ (va : Option Addr) (tl vc : Nat), e = .returned (.tuple #[.slice va tl vc, .int .i64 E]) ∧ (E = 0 → tl = 0) ∧ Below w.heap.size w w') := by rw [hP1]; exact HR3
        have HKp' : Hid (∀ u u' g2 Fp' F2, P1 u g2 Fp' F2 → Below u.heap.size u u' → P1 u' g2 Fp' F2) := by rw [hP1]; exact HKp
        have hn80 : n ≤ 80 := by omega
        clear HR2 HN1 HN2 HS1 HS2 HIs HR3 HKp hP1 hT hL hDj hBj a1 b1 b3 hDD hl80 hs80 hdt p0 p1 hD2 hD2L hD2k hD2s hE2 hE hKn hKl hn hRk hRk2 hRl hRl2 hRs HD HRow HAll HNew hK hC
        go_wp2_with fail
        refine HNw.out.mono ?_
        rintro e w3 ⟨g2, F2, rfl, hd, hq⟩
        have HNd2 := Lib.hid (HNd.out w3 g2 F2 hd hq)
        clear hd hq HNw HNd
        go_wp2_with fail
        refine HNd2.out.mono ?_
        rintro e w4 ⟨av, cv, rfl, hr, hd⟩
        have HPt2 := Lib.hid (HPt.out w4 g2 F2 av cv hr hd)
        clear hd hr HNd2 HPt
        go_wp2_with fail
        refine HPt2.out.mono ?_
        rintro e w5 ⟨rfl, F3, hd⟩
        have HR12 := Lib.hid (HR1.out w5 g2 F3 hd)
        clear hd HPt2 HR1
        go_wp2_with fail
        refine HR12.out.mono ?_
        rintro e w6 ⟨v1, rfl, Fp1, hd⟩
        have HR22 := Lib.hid (HR2'.out w6 g2 Fp1 F3 hd)
        clear hd HR12 HR2'
        go_wp2_with fail
        refine HR22.out.mono ?_
        rintro e w7 ⟨v2, rfl, F4, hd⟩
        have HN12 := Lib.hid (HN1'.out w7 g2 Fp1 F4 hd)
        clear hd HR22 HN1'
        go_wp2_with fail
        refine HN12.out.mono ?_
        rintro e w8 ⟨ia, ic, rfl, hr, hd⟩
        have HN22 := Lib.hid (HN2'.out w8 g2 Fp1 F4 hd)
        have HR := Lib.hid hr
        have HP := Lib.hid hd
        clear hd hr HN12 HN2'
        go_wp2_with fail
        refine HN22.out.mono ?_
        rintro e w9 ⟨ja, jc, rfl, hr, hb⟩
        have HS := Lib.hid (psame_yes (cap := ic) (cap' := jc) (row_keep HR.out hb) hr)
        replace HR := Lib.hid (row_keep HR.out hb)
        replace HP := Lib.hid (HKp'.out _ _ _ _ _ HP.out hb)
        clear hr hb HN22
        go_wp2_with fail
        refine HS.out.mono ?_
        rintro e w10 ⟨rfl, hb⟩
        replace HR := Lib.hid (row_keep HR.out hb)
        replace HP := Lib.hid (HKp'.out _ _ _ _ _ HP.out hb)
        clear hb HS
        go_wp2
        go_loopw [15, 16, 17, 18, 19] (fun i _ _ _ _ wr => ∃ j : Nat, j ≤ n ∧ i = .int .i64 j ∧ Row wr ia n K ∧ P1 wr g2 Fp1 F4) (fun i _ _ _ _ _ => n - (ivl i).toNat)
        case atStart => exact ⟨0, by omega, rfl, HR.out, HP.out⟩
        case round =>
          clear HR HP
          obtain ⟨k, hk, rfl, hr, hp⟩ := hrel
          have HP := Lib.hid hp
          have HR := Lib.hid hr
          clear hp hr
          by_cases hlt2 : k < n
          · obtain ⟨b, off, x, rfl, hz, cz⟩ := row_at HR.out hlt2
            have hbl := World.block_lt_of_cell? _ _ cz
            obtain ⟨his, hxr⟩ := HIs'.out x (List.mem_of_getElem? hz)
            have HC1 := Lib.hid (HS1'.out wr g2 Fp1 F4 x HP.out hxr)
            have HC2 := Lib.hid (fun u q => HS2'.out u g2 Fp1 F4 x q hxr)
            obtain ⟨s, hs⟩ : ∃ s, s = (T x).getD zSt := ⟨_, rfl⟩
            obtain ⟨is, hi⟩ : ∃ is, is = (T x).isSome := ⟨_, rfl⟩
            rw [← hs, ← hi] at HC1 HC2
            rw [← hi] at his
            have HX := Lib.hid (fe_any s)
            have HEq : Hid (∀ W : World, (Op.equalIn 10000 45 (.agg (cFs s).toArray) (.agg (cFs s).toArray)).run Tryz.prog W = .ok true W) := Lib.hid (eqFs s)
            obtain ⟨XX, hXX⟩ : ∃ XX, XX = cFs s := ⟨_, rfl⟩
            rw [← hXX] at HC1 HC2 HX HEq
            have heq := HEq.out
            have HCz : Hid (∀ u, Below wr.heap.size wr u → u.cell? ⟨b, off + k, none⟩ = some (.int .i64 x) ∧ b < u.heap.size ∧ P1 u g2 Fp1 F4 ∧ Row u (some ⟨b, off, none⟩) n K) := Lib.hid (fun u q => ⟨cell_keep cz q, Nat.lt_of_lt_of_le hbl q.size, HKp'.out _ _ _ _ _ HP.out q, row_keep HR.out q⟩)
            have j0 : (0 : Int) ≤ (k : Int) := by omega
            have j2 : (k : Int) < (n : Int) := by omega
            have hE0 : E = 0 ∧ is = true ∨ ¬ E = 0 ∧ is = false := by
              by_cases c : E = 0
              · exact Or.inl ⟨c, by rw [his, decide_eq_true c]⟩
              · exact Or.inr ⟨c, by rw [his, decide_eq_false c]⟩
            have HE0 := Lib.hid hE0
            clear hz hxr hs hi his hXX HEq hE0 HS1' HS2' HIs' HR3' HKp' HR
            go_wp2_with fail
            refine HC1.out.mono ?_
            rintro e w5 ⟨rfl, b5⟩
            have hal : Below w5.heap.size w5 (w5.alloc (.cells (cFs zSt).toArray 45)) := alloc_below _ _
            have hbs : Below w5.heap.size w5 ((w5.alloc (.cells (cFs zSt).toArray 45)).setCells w5.heap.size 0 XX) := below_setCells XX hal (Nat.le_refl _)
            have HTh : Hid ((w5.alloc (.cells (cFs zSt).toArray 45)).there w5.heap.size 0 XX.toArray.size) := Lib.hid (blk_there (Blk.new w5 _ _) (by rw [List.size_toArray, HX.out.len]; exact Nat.le_refl 13))
            have HK : Hid (Blk ((w5.alloc (.cells (cFs zSt).toArray 45)).setCells w5.heap.size 0 XX) w5.heap.size 45 XX.toArray ∧ Below wr.heap.size wr ((w5.alloc (.cells (cFs zSt).toArray 45)).setCells w5.heap.size 0 XX)) := Lib.hid ⟨blk_over (Blk.new w5 _ _) (by rw [HX.out.len]; rfl), bthen b5 hbs⟩
            clear b5 hal hbs HC1 cz hbl
            go_upto_region 24 with (refine wpList_store_mid rfl 45 (.tmp 16) (.tmp 86) rfl w5.heap.size 0 XX.toArray rfl rfl HTh.out HX.out.sizea HX.out.onea ?_)
            refine fin (fun W => Blk W w5.heap.size 45 XX.toArray ∧ Below wr.heap.size wr W) HK.out ?_
            clear HK HTh
            obtain ⟨g8, hg8⟩ : ∃ g8, g8 = w5.heap.size := ⟨_, rfl⟩
            rw [← hg8]
            rintro W ⟨k8, hbW⟩
            have K8 := Lib.hid k8
            have HBW := Lib.hid hbW
            obtain ⟨cz, hbl, hpW, _⟩ := HCz.out W hbW
            have HC3 := Lib.hid (HC2.out W hpW)
            clear k8 hbW hg8 HC2 hpW
            go_wp2_with fail
            refine HC3.out.mono ?_
            rintro e w6 ⟨rfl, b6⟩
            have hal : Below w6.heap.size w6 (w6.alloc (.cells (cFs zSt).toArray 45)) := alloc_below _ _
            have hbs : Below w6.heap.size w6 ((w6.alloc (.cells (cFs zSt).toArray 45)).setCells w6.heap.size 0 XX) := below_setCells XX hal (Nat.le_refl _)
            have HTh : Hid ((w6.alloc (.cells (cFs zSt).toArray 45)).there w6.heap.size 0 XX.toArray.size) := Lib.hid (blk_there (Blk.new w6 _ _) (by rw [List.size_toArray, HX.out.len]; exact Nat.le_refl 13))
            have HK : Hid (Blk ((w6.alloc (.cells (cFs zSt).toArray 45)).setCells w6.heap.size 0 XX) w6.heap.size 45 XX.toArray ∧ Blk ((w6.alloc (.cells (cFs zSt).toArray 45)).setCells w6.heap.size 0 XX) g8 45 XX.toArray ∧ Below wr.heap.size wr ((w6.alloc (.cells (cFs zSt).toArray 45)).setCells w6.heap.size 0 XX)) := Lib.hid ⟨blk_over (Blk.new w6 _ _) (by rw [HX.out.len]; rfl), (K8.out.keep b6).keep hbs, bthen (bthen HBW.out b6) hbs⟩
            clear b6 hal hbs HC3 K8 HBW cz hbl
            go_upto_region 25 with (refine wpList_store_mid rfl 45 (.tmp 18) (.tmp 95) rfl w6.heap.size 0 XX.toArray rfl rfl HTh.out HX.out.sizea HX.out.onea ?_)
            refine fin (fun W => Blk W w6.heap.size 45 XX.toArray ∧ Blk W g8 45 XX.toArray ∧ Below wr.heap.size wr W) HK.out ?_
            clear HK HTh
            obtain ⟨g10, hg10⟩ : ∃ g10, g10 = w6.heap.size := ⟨_, rfl⟩
            rw [← hg10]
            rintro W2 ⟨k10, k8, hbW⟩
            obtain ⟨_, _, hpW, hrW⟩ := HCz.out W2 hbW
            have HR8 : Hid (W2.rangeAt g8 0 XX) := Lib.hid (blk_whole k8)
            have HR10 : Hid (W2.rangeAt g10 0 XX) := Lib.hid (blk_whole k10)
            have z8 := k8.lt
            have z10 := k10.lt
            have HBn := Lib.hid (And.intro hrW hpW)
            clear k10 k8 hbW hg10 HCz hpW hrW
            rcases HE0.out with ⟨hE0, his⟩ | ⟨hE0, his⟩
            · subst hE0 his
              clear HE0
              go_wp2_with (first | refine wpList_load_mid rfl 45 (.tmp 16) rfl g8 0 rfl XX _ HR8.out Tryz.underlying45 rfl HX.out.sizea ?_ | refine wpList_load_mid rfl 45 (.tmp 18) rfl g10 0 rfl XX _ HR10.out Tryz.underlying45 rfl HX.out.sizea ?_)
              go_roundw
              case rel => exact ⟨k + 1, by omega, by go_num, HBn.out⟩
              case measure => simp [ivl] <;> omega
            · subst his
              clear HE0
              go_wp2_with (first | refine wpList_load_mid rfl 45 (.tmp 16) rfl g8 0 rfl XX _ HR8.out Tryz.underlying45 rfl HX.out.sizea ?_ | refine wpList_load_mid rfl 45 (.tmp 18) rfl g10 0 rfl XX _ HR10.out Tryz.underlying45 rfl HX.out.sizea ?_)
              go_roundw
              case rel => exact ⟨k + 1, by omega, by go_num, HBn.out⟩
              case measure => simp [ivl] <;> omega
          · obtain rfl : k = n := by omega
            have j2 : ¬ (k : Int) < (k : Int) := by omega
            have HR32 := Lib.hid (HR3'.out _ _ _ _ HP.out)
            clear HP HR HR3'
            go_wp2_with fail
            refine HR32.out.mono ?_
            rintro e w11 ⟨va, tl, vc, rfl, htl, hb⟩
            have HB := Lib.hid hb
            clear hb HR32
            go_wp2_with fail
            refine (HAlive.out _).mono ?_
            rintro e w12 ⟨rfl, hb⟩
            replace HB := Lib.hid (bthen HB.out hb)
            clear hb
            by_cases hE0 : E = 0
            · obtain rfl := htl hE0
              subst hE0
              go_wp2
              go_ret
              exact ⟨rfl, HB.out⟩
            · clear htl
              go_wp2
              go_ret
              exact ⟨rfl, HB.out⟩
end
end Go.Proofs.YtkpaiedlpdjaeaaGreat
/-
  FlowAnew for any package that answers as the bundles say: the arguments opened, the statement lifted.
-/
namespace Go.Proofs.YtkpaiedlpdjaeaaGreat.flowAnew
open Go.ChangeShapes Go.WideShapes Go.ChangeAt Go.RowKit Go.Deep
set_option linter.unusedVariables false
theorem own : ownKnob Tryz.prog.godebug = none := by kernel_rfl
theorem laidOut : laidOutB Tryz.prog = true := by kernel_rfl
section
variable {FB : World → Nat → (Nat → Prop) → FD → Prop}
set_option maxRecDepth 100000 in
theorem lifted (hT : FWC FB) (hK : KB10 FB) (os : Os) (started : os.Started) (H : Type) (enc : TypeId × Value → H) :
    ReturnsInHanded {} Tryz.checked os 4 .any (Rows.flowAnewSpec.pre6 enc Tryz.prog Tryz.f4 Rows.flowAnewRow.domain false) (Rows.flowAnewSpec.post enc Tryz.prog Tryz.f4 false true false false) := by
  refine returnsInHanded_of_change (C := Tryz.checked) own started (by kernel_rfl) Tryz.func4
    (ChangeSpec.witness6 (enc := enc) (C := Tryz.checked) false ⟨#[], #[.slice none 0 0], []⟩ 8 (by kernel_rfl) (by kernel_rfl) (by kernel_rfl) (by kernel_rfl)) ?_
  intro W base args ds gs before hval0 hW hcnd _
  have hval : ∀ (j : Nat) t v, Tryz.f4.params[j]? = some t → args[j]? = some v → Value.okWide Tryz.prog W .any base t v := hval0
  have hW' := hW
  obtain ⟨p, q, hA0, hV, rfl, hfz, hnd⟩ := hW
  have hA : DataW.TrodAll enc Tryz.prog W 0 (fun _ => true) true Tryz.f4.params.toList args.toList ds p := hA0
  rw [Tryz.params4] at hA hval
  obtain ⟨v0, vs0, d0, ds0, p0, q0, hargs, rfl, rfl, h0, r0⟩ := trodAll_cons hA
  obtain ⟨rfl, rfl, rfl⟩ := trodAll_nil r0
  obtain rfl : args = #[v0] := by cases args; simp_all
  obtain ⟨rfl, rfl⟩ := trodVars_none hV
  obtain ⟨a0, len0, cap0, rfl⟩ := okWide_slice Tryz.underlying22 (hval 0 22 v0 rfl rfl)
  have k0 := h0
  have lt0 : ∀ x ∈ p0, x.block < W.heap.size := by obtain ⟨m, hm⟩ := k0; exact DataW.trod_lt m _ _ _ hm
  obtain ⟨As, row⟩ : ∃ As, ARow10 W a0 len0 As := by
    obtain ⟨fuel, hf⟩ := h0
    exact open_acts10 (by simpa [Value.cells] using hf)
  clear hA0 hval0
  refine (anew10_few hT hK a0 len0 cap0 As W row).mono fun e W' ⟨he, bel⟩ => ?_
  subst he
  exact ⟨_, rfl, _, _, _, [], _, [], hW', trodAll_mk1 (shut_bool Tryz.underlying4 _), (trodAll_cons_mk (Below.trod laidOut (by kernel_rfl) (of_decide_eq_true (by kernel_rfl)) k0 bel lt0) trodAll_mk0), rfl, bel.frame _, fun h => by cases h⟩

theorem over (hT : FWC FB) (hK : KB10 FB) : Rows.flowAnewRow.holds Tryz.pinned (OpenSpec.ofChange Rows.flowAnewSpec) :=
  OpenClaim.holds_of_wide 4 Tryz.f4 rfl rfl rfl rfl rfl rfl rfl ⟨rfl, rfl, rfl, rfl, rfl⟩ rfl rfl rfl rfl rfl (by kernel_rfl) Tryz.func4 (by kernel_rfl)
    (of_decide_eq_true (by kernel_rfl)) (by unfold Func.isWrapper; first | (rw [if_pos (by decide +kernel)]; kernel_rfl) | (rw [if_neg (by decide +kernel)]; exact ⟨rfl, rfl⟩))
    (fun os started H enc _ => lifted hT hK os started H enc)
end
end Go.Proofs.YtkpaiedlpdjaeaaGreat.flowAnew
