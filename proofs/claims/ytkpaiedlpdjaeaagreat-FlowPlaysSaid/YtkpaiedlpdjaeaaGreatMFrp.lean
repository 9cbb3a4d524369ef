/-
  3 texts in one file, each with its own heading.
-/
import Derived.Test.YtkpaiedlpdjaeaaGreatRows
import Derived.Test.YtkpaiedlpdjaeaaGreatMFrg
import Derived.WalkKit
import Derived.ProofKit
import Derived.OpenShut
import Derived.ShutString
import Derived.ChangeOld
import Derived.Below
import Derived.Deep.Slices
import Derived.Laws.IdiomArrays
/-
  The acts of layer 10 that came in, opened.
-/
namespace Go.Proofs.YtkpaiedlpdjaeaaGreat
open Go.ChangeShapes Go.WideShapes Go.ChangeAt Go.RowKit Go.Deep
set_option linter.unusedVariables false

theorem rg_wf {x : Int} (h : (Lit.int .i64 x).wf = true) : Rg x := by
  have h2 : (decide (IntKind.i64.min ≤ x) && decide (x ≤ IntKind.i64.max)) = true := h
  rw [Bool.and_eq_true, decide_eq_true_eq, decide_eq_true_eq] at h2
  exact h2
instance : Inhabited A10 := ⟨⟨0, none, 0, 0, [], none, 0, 0, []⟩⟩
section
variable {H : Type} {enc : TypeId × Value → H} {w : World} {base : Nat} {held : Bool}
theorem open_ids10 {fuel : Nat} {cs : List Value} {x : DataW H × List MemPlace} (h : DataW.trod enc Tryz.prog w base (fun _ => true) held fuel 29 cs = some x) : ∃ a len cap zs, cs = [.slice a len cap] ∧ Row w a len zs ∧ Rgs zs := by
  rcases open_ints Tryz.underlying29 Tryz.underlying48 (by kernel_rfl) h with ⟨hcs, _⟩ | ⟨ad, l, c, zs, hcs, _, hl, hm, hz, _, hcell, hwz⟩
  · exact ⟨none, 0, 0, [], hcs, ⟨rfl, by omega, .inl rfl⟩, fun x hx => by cases hx⟩
  · unfold maxLen at hm
    simp only [if_true] at hz
    refine ⟨some ad, l, c, zs.take l, hcs, ⟨by rw [List.length_take]; omega, by omega, ?_⟩, fun x hx => rg_wf (hwz x (List.mem_of_mem_take hx))⟩
    by_cases h0 : l = 0
    · exact .inl h0
    · obtain ⟨b, off, spot⟩ := ad
      have hspot : spot = none := by simpa [Addr.add] using World.cell?_spot (hcell 0 (by omega))
      subst hspot
      refine .inr ⟨b, off, rfl, fun i hi => ?_⟩
      have := hcell i (by omega)
      rw [Addr.add_mid] at this
      rw [this]
      simp [hi]
theorem take1_at10 {cs : List Value} {i : Nat} {v : Value} (h : (cs.drop i).take 1 = [v]) : cs[i]? = some v := by
  have e := congrArg (fun l => l[0]?) h
  simpa using e
theorem open_mat10 {fuel : Nat} {cs : List Value} {x : DataW H × List MemPlace} (hl : cs.length = 12) (h : DataW.trod enc Tryz.prog w base (fun _ => true) held fuel 43 cs = some x) : ∃ M : Nat → Int, cs = lM M := by
  obtain ⟨xs, m, _, _, _, hxl, hx⟩ := DataW.trod_array Tryz.underlying43 h
  rw [show Tryz.prog.cellsOf 41 = 1 by kernel_rfl] at hx
  obtain ⟨M, hM⟩ := choose_lt (α := Int) (n := 12) (p := fun i v => cs[i]? = some (.int .i64 v)) (fun i hi => by
    have e0 : xs[i]? = some (xs[i]'(by omega)) := List.getElem?_eq_getElem (by omega)
    obtain ⟨v, ev, _, wv⟩ := DataW.trod_int Tryz.underlying41 ((hx i hi).trans e0)
    rw [Nat.mul_one] at ev
    exact ⟨v, take1_at10 ev⟩)
  refine ⟨M, ?_⟩
  match cs, hl with
  | [c0, c1, c2, c3, c4, c5, c6, c7, c8, c9, c10, c11], _ =>
    have h0 := hM 0 (by omega)
    have h1 := hM 1 (by omega)
    have h2 := hM 2 (by omega)
    have h3 := hM 3 (by omega)
    have h4 := hM 4 (by omega)
    have h5 := hM 5 (by omega)
    have h6 := hM 6 (by omega)
    have h7 := hM 7 (by omega)
    have h8 := hM 8 (by omega)
    have h9 := hM 9 (by omega)
    have h10 := hM 10 (by omega)
    have h11 := hM 11 (by omega)
    simp at h0 h1 h2 h3 h4 h5 h6 h7 h8 h9 h10 h11
    rw [h0, h1, h2, h3, h4, h5, h6, h7, h8, h9, h10, h11]
    rfl
theorem node_open10 {fuel : Nat} {cs : List Value} {x : DataW H × List MemPlace} (hl : cs.length = 15) (h : DataW.trod enc Tryz.prog w base (fun _ => true) held fuel 64 cs = some x) : ∃ n : Nd, cs = cNd n ∧ Rg n.id ∧ Rg n.par := by
  obtain ⟨xs, n, _, _, _, hxl, hx⟩ := DataW.trod_struct Tryz.underlying64 h
  have hxl2 : xs.length = 4 := hxl
  have hc0 : Tryz.prog.cellsOf 48 = 1 := by kernel_rfl
  have f0 : DataW.trod enc Tryz.prog w base (fun _ => true) held n 48 ((cs.drop 0).take 1) = some (xs[0]'(by omega)) := by
    have := (hx 0 _ rfl).trans (List.getElem?_eq_getElem (show 0 < xs.length by omega))
    exact (congrArg (fun c => DataW.trod enc Tryz.prog w base (fun _ => true) held n 48 ((cs.drop 0).take c)) hc0.symm).trans this
  have f1 : DataW.trod enc Tryz.prog w base (fun _ => true) held n 48 ((cs.drop 1).take 1) = some (xs[1]'(by omega)) := by
    have := (hx 1 _ rfl).trans (List.getElem?_eq_getElem (show 1 < xs.length by omega))
    exact (congrArg (fun c => DataW.trod enc Tryz.prog w base (fun _ => true) held n 48 ((cs.drop 1).take c)) hc0.symm).trans this
  have hc2 : Tryz.prog.cellsOf 43 = 12 := by kernel_rfl
  have f2 : DataW.trod enc Tryz.prog w base (fun _ => true) held n 43 ((cs.drop 2).take 12) = some (xs[2]'(by omega)) := by
    have := (hx 2 _ rfl).trans (List.getElem?_eq_getElem (show 2 < xs.length by omega))
    exact (congrArg (fun c => DataW.trod enc Tryz.prog w base (fun _ => true) held n 43 ((cs.drop 2).take c)) hc2.symm).trans this
  have hc3 : Tryz.prog.cellsOf 4 = 1 := by kernel_rfl
  have f3 : DataW.trod enc Tryz.prog w base (fun _ => true) held n 4 ((cs.drop 14).take 1) = some (xs[3]'(by omega)) := by
    have := (hx 3 _ rfl).trans (List.getElem?_eq_getElem (show 3 < xs.length by omega))
    exact (congrArg (fun c => DataW.trod enc Tryz.prog w base (fun _ => true) held n 4 ((cs.drop 14).take c)) hc3.symm).trans this
  obtain ⟨v0, e0, _, w0⟩ := DataW.trod_int Tryz.underlying48 f0
  obtain ⟨v1, e1, _, w1⟩ := DataW.trod_int Tryz.underlying48 f1
  obtain ⟨M, hM⟩ := open_mat10 (by rw [List.length_take, List.length_drop]; omega) f2
  obtain ⟨v3, e3, _⟩ := DataW.trod_bool Tryz.underlying4 f3
  refine ⟨⟨v0, v1, M, v3⟩, ?_, rg_wf w0, rg_wf w1⟩
  have d0 : cs = (cs.drop 0).take 1 ++ ((cs.drop 1).take 1 ++ ((cs.drop 2).take 12 ++ (cs.drop 14).take 1)) := by
    have a5 : (cs.drop 14).take 1 = cs.drop 14 := List.take_of_length_le (by rw [List.length_drop]; omega)
    have st : ∀ o k, (cs.drop o).take k ++ cs.drop (o + k) = cs.drop o := fun o k => by
      have := List.take_append_drop k (cs.drop o)
      rwa [List.drop_drop] at this
    rw [a5, st 2 12, st 1 1, st 0 1, List.drop_zero]
  rw [d0, e0, e1, hM, e3]
  rfl
theorem open_nodes10 {fuel : Nat} {cs : List Value} {x : DataW H × List MemPlace} (h : DataW.trod enc Tryz.prog w base (fun _ => true) held fuel 34 cs = some x) : ∃ a len cap l, cs = [.slice a len cap] ∧ NRow w a len l ∧ rgN l := by
  rcases open_slice Tryz.underlying34 h with ⟨hcs, _⟩ | ⟨ad, len, c, m, n, D, Pl, hcs, _, hlc, hm, hmm, _, hi⟩
  · exact ⟨none, 0, 0, [], hcs, ⟨rfl, by omega, .inl rfl⟩, fun x hx => by cases hx⟩
  · unfold maxLen at hm
    have hC : Tryz.prog.cellsOf 64 = 15 := by kernel_rfl
    rw [hC] at hi
    simp only [if_true] at hmm
    subst hmm
    obtain ⟨V, hV⟩ := choose_lt (α := Nd) (n := len) (p := fun i x => (∀ j v, (cNd x)[j]? = some v → w.cell? ((ad.add (i * 15)).add j) = some v) ∧ Rg x.id ∧ Rg x.par) (fun i hil => by
      obtain ⟨cs', hc, ht⟩ := hi i (by omega)
      obtain ⟨_, hlen, hat⟩ := World.cells?_some hc
      obtain ⟨x, hx, hb⟩ := node_open10 hlen ht
      refine ⟨x, fun j v hv => ?_, hb⟩
      have hj : j < 15 := by have := (List.getElem?_eq_some_iff.1 hv).1; rw [cNd_len] at this; exact this
      rw [hat j hj, hx]
      exact hv)
    refine ⟨some ad, len, _, (List.range len).map V, hcs, ⟨by simp, by omega, ?_⟩, fun x hx => ?_⟩
    · by_cases h0 : len = 0
      · exact .inl h0
      · obtain ⟨b, off, spot⟩ := ad
        have c0 := (hV 0 (by omega)).1 0 _ rfl
        have hspot : spot = none := by simpa [Addr.add] using World.cell?_spot c0
        subst hspot
        have hb : b < w.heap.size := by
          have := World.block_lt_of_cell? _ _ c0
          simpa [add_plain] using this
        refine .inr ⟨b, off, rfl, hb, fun i x hx => ?_⟩
        have hil : i < len := by have := (List.getElem?_eq_some_iff.1 hx).1; simpa using this
        have e : V i = x := by
          rw [List.getElem?_map, List.getElem?_range hil] at hx
          simpa using hx
        rw [← e]
        intro j v hv
        have := (hV i hil).1 j v hv
        simpa only [add_plain] using this
    · obtain ⟨i, hi2, e⟩ := List.mem_map.1 hx
      rw [← e]
      exact (hV i (List.mem_range.1 hi2)).2
theorem act_open10 {fuel : Nat} {cs : List Value} {x : DataW H × List MemPlace} (hl : cs.length = 3) (h : DataW.trod enc Tryz.prog w base (fun _ => true) held fuel 36 cs = some x) : ∃ a : A10, cs = c10 a ∧ ok10 w a := by
  obtain ⟨xs, n, _, _, _, hxl, hx⟩ := DataW.trod_struct Tryz.underlying36 h
  have hxl2 : xs.length = 3 := hxl
  have hc0 : Tryz.prog.cellsOf 5 = 1 := by kernel_rfl
  have f0 : DataW.trod enc Tryz.prog w base (fun _ => true) held n 5 ((cs.drop 0).take 1) = some (xs[0]'(by omega)) := by
    have := (hx 0 _ rfl).trans (List.getElem?_eq_getElem (show 0 < xs.length by omega))
    exact (congrArg (fun c => DataW.trod enc Tryz.prog w base (fun _ => true) held n 5 ((cs.drop 0).take c)) hc0.symm).trans this
  have hc1 : Tryz.prog.cellsOf 34 = 1 := by kernel_rfl
  have f1 : DataW.trod enc Tryz.prog w base (fun _ => true) held n 34 ((cs.drop 1).take 1) = some (xs[1]'(by omega)) := by
    have := (hx 1 _ rfl).trans (List.getElem?_eq_getElem (show 1 < xs.length by omega))
    exact (congrArg (fun c => DataW.trod enc Tryz.prog w base (fun _ => true) held n 34 ((cs.drop 1).take c)) hc1.symm).trans this
  have hc2 : Tryz.prog.cellsOf 29 = 1 := by kernel_rfl
  have f2 : DataW.trod enc Tryz.prog w base (fun _ => true) held n 29 ((cs.drop 2).take 1) = some (xs[2]'(by omega)) := by
    have := (hx 2 _ rfl).trans (List.getElem?_eq_getElem (show 2 < xs.length by omega))
    exact (congrArg (fun c => DataW.trod enc Tryz.prog w base (fun _ => true) held n 29 ((cs.drop 2).take c)) hc2.symm).trans this
  obtain ⟨v0, e0, _, w0⟩ := DataW.trod_int Tryz.underlying5 f0
  obtain ⟨na, nl, nc, ns, e1, hrow1, hrg1⟩ := open_nodes10 f1
  obtain ⟨ka, kl, kc, ks, e2, hrow, hrg⟩ := open_ids10 f2
  refine ⟨⟨v0, na, nl, nc, ns, ka, kl, kc, ks⟩, ?_, (bounds_u8 w0).1, (bounds_u8 w0).2, ⟨hrow1, hrg1⟩, hrow, hrg⟩
  have d0 : cs = (cs.drop 0).take 1 ++ ((cs.drop 1).take 1 ++ (cs.drop 2).take 1) := by
    have a5 : (cs.drop 2).take 1 = cs.drop 2 := List.take_of_length_le (by rw [List.length_drop]; omega)
    have st : ∀ o k, (cs.drop o).take k ++ cs.drop (o + k) = cs.drop o := fun o k => by
      have := List.take_append_drop k (cs.drop o)
      rwa [List.drop_drop] at this
    rw [a5, st 1 1, st 0 1, List.drop_zero]
  rw [d0, e0, e1, e2]
  rfl
theorem open_acts10 {fuel : Nat} {a : Option Addr} {len cap : Nat} {x : DataW H × List MemPlace} (h : DataW.trod enc Tryz.prog w base (fun _ => true) held fuel 22 [.slice a len cap] = some x) : ∃ As, ARow10 w a len As := by
  rcases open_slice Tryz.underlying22 h with ⟨hcs, _⟩ | ⟨ad, l, c, m, n, D, Pl, hcs, _, hlc, hm, hmm, _, hi⟩
  · simp at hcs
    obtain ⟨rfl, rfl, rfl⟩ := hcs
    exact ⟨[], rfl, by omega, .inl rfl⟩
  · simp at hcs
    obtain ⟨rfl, rfl, rfl⟩ := hcs
    unfold maxLen at hm
    have hC : Tryz.prog.cellsOf 36 = 3 := by kernel_rfl
    rw [hC] at hi
    simp only [if_true] at hmm
    subst hmm
    obtain ⟨V, hV⟩ := choose_lt (α := A10) (n := len) (p := fun i x => (∀ j v, (c10 x)[j]? = some v → w.cell? ((ad.add (i * 3)).add j) = some v) ∧ ok10 w x) (fun i hil => by
      obtain ⟨cs', hc, ht⟩ := hi i (by omega)
      obtain ⟨_, hlen, hat⟩ := World.cells?_some hc
      obtain ⟨x, hx, hb⟩ := act_open10 hlen ht
      refine ⟨x, fun j v hv => ?_, hb⟩
      have hj : j < 3 := by have := (List.getElem?_eq_some_iff.1 hv).1; rw [c10_len] at this; exact this
      rw [hat j hj, hx]
      exact hv)
    refine ⟨(List.range len).map V, by simp, by omega, ?_⟩
    by_cases h0 : len = 0
    · exact .inl h0
    · obtain ⟨b, off, spot⟩ := ad
      have c0 := (hV 0 (by omega)).1 0 _ rfl
      have hspot : spot = none := by simpa [Addr.add] using World.cell?_spot c0
      subst hspot
      have hb : b < w.heap.size := by
        have := World.block_lt_of_cell? _ _ c0
        simpa [add_plain] using this
      refine .inr ⟨b, off, rfl, hb, fun i x hx => ?_⟩
      have hil : i < len := by have := (List.getElem?_eq_some_iff.1 hx).1; simpa using this
      have e : V i = x := by
        rw [List.getElem?_map, List.getElem?_range hil] at hx
        simpa using hx
      rw [← e]
      refine ⟨fun j v hv => ?_, (hV i hil).2⟩
      have := (hV i hil).1 j v hv
      simpa only [add_plain] using this
end
end Go.Proofs.YtkpaiedlpdjaeaaGreat
/-
  FlowPlays for any package that answers as the bundles say: the walk.
-/
namespace Go.Proofs.YtkpaiedlpdjaeaaGreat
open Go.RowKit

section
variable {FB : World → Nat → (Nat → Prop) → FD → Prop}
set_option maxHeartbeats 4000000 in
set_option maxRecDepth 100000 in
theorem plays10_few (hC : FWC FB) (hK : KB10 FB) (hN : FWN) (a : Option Addr) (len cap : Nat) (As : List A10) (w : World) (row : ARow10 w a len As) :
    Calls Tryz.prog 3 #[.slice a len cap] w fun e w' => e = .returned (.bool true) ∧ Below w.heap.size w w' := by
  have HFits := Lib.hid (fits10_any a len cap As w row)
  have HAlive := Lib.hid (alive10_any hC)
  have HRow := Lib.hid row
  have hbig := row.2.1
  have HNew := Lib.hid hC.new
  clear row
  go_enter Tryz.func3, Tryz.ntmps3
  go_wp2_with fail
  refine HFits.out.mono ?_
  rintro e w1 ⟨fb, rfl, hfit, hb1⟩
  have HFit := Lib.hid hfit
  have HB1 := Lib.hid hb1
  clear hfit hb1 HFits
  cases fb with
  | false =>
    go_wp2_with fail
    refine (HAlive.out _).mono ?_
    rintro e w2 ⟨rfl, hb⟩
    have HB := Lib.hid (bthen HB1.out hb)
    clear hb
    go_wp2
    go_ret
    exact ⟨rfl, HB.out⟩
  | true =>
    obtain ⟨hlen, hall⟩ := HFit.out rfl
    have HAll := Lib.hid hall
    clear hall HFit
    go_wp2_with fail
    refine (HNew.out w1).mono ?_
    rintro e w2 ⟨gp, Fp0, rfl, hf, hF, hb⟩
    have HD0 := Lib.hid (Duo10.new hC hf (fun b c => Nat.le_trans HB1.out.size (hF b c)) (bthen HB1.out hb))
    obtain ⟨gr, hgr⟩ : ∃ gr, gr = w2.heap.size := ⟨_, rfl⟩
    clear hf hF hb HNew
    go_upto_region 6 with fail
    refine fin (fun W => ∃ Fq0, Duo10 FB RWB w W gp gr Fp0 Fq0 FD0 FD0) ⟨_, by rw [hgr]; exact HD0.out⟩ ?_
    rw [← hgr]
    clear HD0 hgr HB1
    rintro W0 hd0
    have HD0 := Lib.hid hd0
    clear hd0
    go_wp2
    go_loopw [6, 7, 8] (fun i _ _ wr => ∃ j : Nat, j ≤ len ∧ i = .int .i64 j ∧ ∃ Fp Fq, Duo10 FB RWB w wr gp gr Fp Fq (Dk As j) (Dk As j)) (fun i _ _ _ => len - (ivl i).toNat)
    case atStart =>
      obtain ⟨Fq0, hd⟩ := HD0.out
      exact ⟨0, by omega, rfl, Fp0, Fq0, hd⟩
    case round =>
      clear HD0
      obtain ⟨j, hj, rfl, Fp, Fq, hd⟩ := hrel
      have HD := Lib.hid hd
      clear hd
      by_cases hlt : j < len
      · obtain ⟨b, off, x, rfl, hx, hr, hok⟩ := (HRow.out.keep HD.out.low).at_ hlt
        have cx0 : wr.cell? ⟨b, off + j * 3, none⟩ = some (.int .u8 x.k) := hr 0 _ rfl
        have cx1 : wr.cell? ⟨b, off + j * 3 + 1, none⟩ = some (.slice x.a x.n x.cap) := hr 1 _ rfl
        have cx2 : wr.cell? ⟨b, off + j * 3 + 2, none⟩ = some (.slice x.b x.m x.cap') := hr 2 _ rfl
        have hbl := World.block_lt_of_cell? _ _ cx0
        obtain ⟨b', off', x', e', hx', _, hok'⟩ := HRow.out.at_ hlt
        have exx : x' = x := by rw [hx] at hx'; injection hx' with q; exact q.symm
        subst exx
        obtain ⟨hDj, hBj⟩ := Dk_all HRow.out HAll.out j hj
        obtain ⟨hD1, hB1⟩ := Dk_all HRow.out HAll.out (j + 1) (by omega)
        have a1 := HAll.out j hj
        have a2 := HAll.out (j + 1) (by omega)
        rw [suA_step hx] at a2
        have b1 := hBj.l
        have b2 := hBj.d
        have b3 := hBj.s
        have b4 := hB1.l
        have b5 := hB1.d
        rw [suA_step hx] at b4 b5
        have b6 : x'.m * (Dk As j).L.length ≤ x'.m * 80 := Nat.mul_le_mul_left _ (by omega)
        have HSt := Lib.hid (step10_any hC hK gc_rwb HD.out hDj x' (fun _ => gr_rwb) hok' (by omega) (by omega) (by omega) (by omega) (by omega))
        rw [← Dk_succ hx] at HSt
        have HSa : Hid (∀ u Fp' Fq', Duo10 FB RWB w u gp gr Fp' Fq' (Dk As (j + 1)) (Dk As (j + 1)) → Calls Tryz.prog 10 #[.pointer (some ⟨gp, 0, none⟩), .pointer (some ⟨gr, 0, none⟩)] u fun e w' => e = .returned (.bool true) ∧ Duo10 FB RWB w w' gp gr Fp' Fq' (Dk As (j + 1)) (Dk As (j + 1))) := Lib.hid (fun u Fp' Fq' d => (same10_any hC d hD1 (by omega) (by omega)).mono fun e w' q => ⟨q.1, d.keep hK kb_rwb q.2⟩)
        have k0 : (0 : Int) ≤ (j : Int) := by omega
        have k1 : (j : Int) < (len : Int) := by omega
        obtain ⟨xk, hxk⟩ : ∃ xk, xk = x'.k := ⟨_, rfl⟩
        obtain ⟨xa, hxa⟩ : ∃ xa, xa = x'.a := ⟨_, rfl⟩
        obtain ⟨xn, hxnn⟩ : ∃ xn, xn = x'.n := ⟨_, rfl⟩
        obtain ⟨xc, hxc⟩ : ∃ xc, xc = x'.cap := ⟨_, rfl⟩
        obtain ⟨xb, hxb⟩ : ∃ xb, xb = x'.b := ⟨_, rfl⟩
        obtain ⟨xm, hxm⟩ : ∃ xm, xm = x'.m := ⟨_, rfl⟩
        obtain ⟨xd, hxd⟩ : ∃ xd, xd = x'.cap' := ⟨_, rfl⟩
        rw [← hxk] at cx0 HSt
        rw [← hxa, ← hxnn, ← hxc] at cx1 HSt
        rw [← hxb, ← hxm, ← hxd] at cx2 HSt
        clear hx hr hok hok' hx' hxk hxa hxnn hxc hxb hxm hxd e' hDj hBj hD1 hB1 a1 a2 b1 b2 b3 b4 b5 b6
        go_wp2_with fail
        refine HSt.out.mono ?_
        rintro e w3 ⟨rfl, Fp1, Fq1, hd⟩
        have HS := Lib.hid (HSa.out w3 Fp1 Fq1 hd)
        clear hd HSt HSa HD cx0 cx1 cx2 hbl
        go_wp2_with fail
        refine HS.out.mono ?_
        rintro e w4 ⟨rfl, hd⟩
        have HD1 := Lib.hid hd
        clear hd HS
        go_wp2
        go_roundw
        case rel => exact ⟨j + 1, by omega, by go_num, Fp1, Fq1, HD1.out⟩
        case measure => simp [ivl] <;> omega
      · obtain rfl : j = len := by omega
        have HB0 := Lib.hid HD.out.low
        have j1 : ¬ (j : Int) < (j : Int) := by omega
        have HX := Lib.hid (fe_any zSt)
        clear HD
        go_wp2_with fail
        refine (hN.run _).mono ?_
        rintro e w3 ⟨rfl, hb⟩
        have HB3 := Lib.hid (bthen HB0.out hb)
        clear hb HB0
        go_wp2_with fail
        refine (hN.state _).mono ?_
        rintro e w4 ⟨Y, rfl, rfl, hb⟩
        obtain ⟨Z, hZ⟩ : ∃ Z, Z = cFs zSt := ⟨_, rfl⟩
        have hal : Below w4.heap.size w4 (w4.alloc (.cells (cFs zSt).toArray 45)) := alloc_below _ _
        have HTh : Hid ((w4.alloc (.cells (cFs zSt).toArray 45)).there w4.heap.size 0 Z.toArray.size) := Lib.hid (blk_there (Blk.new w4 _ _) (by rw [hZ, List.size_toArray, HX.out.len]; exact Nat.le_refl 13))
        rw [← hZ] at HX ⊢
        have HE : Hid (Below w.heap.size w ((w4.alloc (.cells (cFs zSt).toArray 45)).setCells w4.heap.size 0 Z)) := Lib.hid (bthen HB3.out (bthen hb (below_setCells Z hal (Nat.le_refl _))))
        clear hb HB3 hal hZ
        go_upto_region 16 with (refine wpList_store_mid rfl 45 (.tmp 12) (.tmp 52) rfl w4.heap.size 0 Z.toArray rfl rfl HTh.out HX.out.sizea HX.out.onea ?_)
        refine fin (fun W => Below w.heap.size w W) HE.out ?_
        clear HE HTh HX
        rintro W hbW
        have HB4 := Lib.hid hbW
        clear hbW
        go_wp2_with fail
        refine (HAlive.out _).mono ?_
        rintro e w5 ⟨rfl, hb⟩
        have HB5 := Lib.hid (bthen HB4.out hb)
        clear hb HB4
        go_wp2_with fail
        refine (hN.put _ none 0 0).mono ?_
        rintro e w6 ⟨rfl, hb⟩
        have HB6 := Lib.hid (bthen HB5.out hb)
        clear hb HB5
        go_wp2_with fail
        refine (hN.drop (w6.alloc (.cells #[.int .i64 1] 48)) _ 1 1).mono ?_
        rintro e w7 ⟨rfl, hb⟩
        have HB7 := Lib.hid (bthen HB6.out (bthen (alloc_below _ _) hb))
        clear hb HB6
        go_wp2_with fail
        refine (hN.steps _).mono ?_
        rintro e w8 ⟨rfl, hb⟩
        have HB8 := Lib.hid (bthen HB7.out hb)
        clear hb HB7
        go_wp2_with fail
        refine (hN.nodes _).mono ?_
        rintro e w9 ⟨rfl, hb⟩
        have HB9 := Lib.hid (bthen HB8.out hb)
        clear hb HB8
        go_wp2
        go_ret
        exact ⟨rfl, HB9.out⟩
end
end Go.Proofs.YtkpaiedlpdjaeaaGreat
/-
  FlowPlays for any package that answers as the bundles say: the arguments opened, the statement lifted.
-/
namespace Go.Proofs.YtkpaiedlpdjaeaaGreat.flowPlays
open Go.ChangeShapes Go.WideShapes Go.ChangeAt Go.RowKit Go.Deep
set_option linter.unusedVariables false
theorem own : ownKnob Tryz.prog.godebug = none := by kernel_rfl
theorem laidOut : laidOutB Tryz.prog = true := by kernel_rfl
section
variable {FB : World → Nat → (Nat → Prop) → FD → Prop}
set_option maxRecDepth 100000 in
theorem lifted (hT : FWC FB) (hK : KB10 FB) (hN : FWN) (os : Os) (started : os.Started) (H : Type) (enc : TypeId × Value → H) :
    ReturnsInHanded {} Tryz.checked os 3 .any (Rows.flowPlaysSpec.pre6 enc Tryz.prog Tryz.f3 Rows.flowPlaysRow.domain false) (Rows.flowPlaysSpec.post enc Tryz.prog Tryz.f3 false true false false) := by
  refine returnsInHanded_of_change (C := Tryz.checked) own started (by kernel_rfl) Tryz.func3
    (ChangeSpec.witness6 (enc := enc) (C := Tryz.checked) false ⟨#[], #[.slice none 0 0], []⟩ 8 (by kernel_rfl) (by kernel_rfl) (by kernel_rfl) (by kernel_rfl)) ?_
  intro W base args ds gs before hval0 hW hcnd _
  have hval : ∀ (j : Nat) t v, Tryz.f3.params[j]? = some t → args[j]? = some v → Value.okWide Tryz.prog W .any base t v := hval0
  have hW' := hW
  obtain ⟨p, q, hA0, hV, rfl, hfz, hnd⟩ := hW
  have hA : DataW.TrodAll enc Tryz.prog W 0 (fun _ => true) true Tryz.f3.params.toList args.toList ds p := hA0
  rw [Tryz.params3] at hA hval
  obtain ⟨v0, vs0, d0, ds0, p0, q0, hargs, rfl, rfl, h0, r0⟩ := trodAll_cons hA
  obtain ⟨rfl, rfl, rfl⟩ := trodAll_nil r0
  obtain rfl : args = #[v0] := by cases args; simp_all
  obtain ⟨rfl, rfl⟩ := trodVars_none hV
  obtain ⟨a0, len0, cap0, rfl⟩ := okWide_slice Tryz.underlying22 (hval 0 22 v0 rfl rfl)
  have k0 := h0
  have lt0 : ∀ x ∈ p0, x.block < W.heap.size := by obtain ⟨m, hm⟩ := k0; exact DataW.trod_lt m _ _ _ hm
  obtain ⟨As, row⟩ : ∃ As, ARow10 W a0 len0 As := by
    obtain ⟨fuel, hf⟩ := h0
    exact open_acts10 (by simpa [Value.cells] using hf)
  clear hA0 hval0
  refine (plays10_few hT hK hN a0 len0 cap0 As W row).mono fun e W' ⟨he, bel⟩ => ?_
  subst he
  exact ⟨_, rfl, _, _, _, [], _, [], hW', trodAll_mk1 (shut_bool Tryz.underlying4 _), (trodAll_cons_mk (Below.trod laidOut (by kernel_rfl) (of_decide_eq_true (by kernel_rfl)) k0 bel lt0) trodAll_mk0), rfl, bel.frame _, fun h => by cases h⟩

theorem over (hT : FWC FB) (hK : KB10 FB) (hN : FWN) : Rows.flowPlaysRow.holds Tryz.pinned (OpenSpec.ofChange Rows.flowPlaysSpec) :=
  OpenClaim.holds_of_wide 3 Tryz.f3 rfl rfl rfl rfl rfl rfl rfl ⟨rfl, rfl, rfl, rfl, rfl⟩ rfl rfl rfl rfl rfl (by kernel_rfl) Tryz.func3 (by kernel_rfl)
    (of_decide_eq_true (by kernel_rfl)) (by unfold Func.isWrapper; first | (rw [if_pos (by decide +kernel)]; kernel_rfl) | (rw [if_neg (by decide +kernel)]; exact ⟨rfl, rfl⟩))
    (fun os started H enc _ => lifted hT hK hN os started H enc)
end
end Go.Proofs.YtkpaiedlpdjaeaaGreat.flowPlays
