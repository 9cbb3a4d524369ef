/-
  What the landed table's New, fits, shorten and write answer.
-/
import Derived.Test.YtpobnmcjmclgbaaTapE
import Derived.Deep.QuietTactic
import Derived.Maps.AppendAt
import Derived.Deep.Cut
import Derived.Deep.CutRange
namespace Go.Proofs.Ytpobnmcjmclgbaa
open Go.RowKit

/-- the first m columns cut -/
def cutTo (X : Nat → TR) (row m i : Nat) : TR := if i < m then cutL (X i) row else X i
theorem cutTo_at (X : Nat → TR) (row j : Nat) : cutTo X row j j = X j := by unfold cutTo; rw [if_neg (by omega)]
theorem Tab.ownCut {w : World} {g : Nat} {s : Int} {v : Nat → Value} {X : Nat → TR} {row j : Nat} (h : Tab w g s v (cutTo X row j)) (hj : j < 8) : Col w j (v j) (X j) := cutTo_at X row j ▸ h.own j hj
theorem Tab.mid {w w1 : World} {g : Nat} {s : Int} {v : Nat → Value} {X : Nat → TR} {j : Nat} (h : Tab w g s v X) (hj : j < 8) (hg : w.grownBy w1 (v j).ownBlock) : w1.cell? ⟨g, 1 + j, none⟩ = some (v j) ∧ w1.frozen? ⟨g, 1 + j, none⟩ = false ∧ g < w1.heap.size := by
  have hk : Blk w1 g 60 (tcells s v) := h.blk.same (hg.block g h.blk.lt (fun e => h.off j hj e.symm))
  exact ⟨by rw [hk.cell, tcells_at hj], hk.frozen _, hk.lt⟩
theorem Tab.cutStep {w w1 w0 : World} {g : Nat} {s : Int} {v v0 : Nat → Value} {X : Nat → TR} {row j : Nat} {u : Value} (h : Tab w g s v (cutTo X row j)) (hj : j < 8) (hg : w.grownBy w1 (v j).ownBlock) (hc : Col w1 j u (cutL (X j) row)) (hu : u.ownBlock = (v j).ownBlock) (st : Step w0 w g v0 v) :
    ∃ v', Tab (w1.setCell ⟨g, 1 + j, none⟩ u) g s v' (cutTo X row (j + 1)) ∧ Step w0 (w1.setCell ⟨g, 1 + j, none⟩ u) g v0 v' := by
  obtain ⟨h1, h2⟩ := h.assign hj hg hc (fun b hb => Or.inl (hu ▸ hb))
  refine ⟨_, h1.ext (fun i _ => ?_), st.trans h2⟩
  unfold upc cutTo
  by_cases e : i = j
  · subst e; rw [if_pos rfl, if_pos (by omega)]
  · rw [if_neg e]
    by_cases c : i < j
    · rw [if_pos c, if_pos (by omega)]
    · rw [if_neg c, if_neg (by omega)]

set_option maxHeartbeats 4000000 in
set_option maxRecDepth 100000 in
theorem shorten_any {g : Nat} {s : Int} {v : Nat → Value} {X : Nat → TR} {w : World} (h : Tab w g s v X) (hX : ∀ i, i < 8 → (X i).length ≤ 1000) (row : Nat) :
    Calls Try.prog 27 #[.pointer (some ⟨g, 1, none⟩), .int .i64 row] w fun e w' => e = .returned (.tuple #[]) ∧ ∃ v', Tab w' g s v' (fun i => cutL (X i) row) ∧ Step w w' g v v' := by
  have HX := Lib.hid hX
  have HT0 : Hid (Tab w g s v (cutTo X row 0) ∧ Step w w g v v) := Lib.hid ⟨h.ext (fun i _ => by unfold cutTo; rw [if_neg (by omega)]), Step.refl _ _ _⟩
  clear hX h
  have hg : g < w.heap.size := HT0.out.1.blk.lt
  have cc : w.cell? ⟨g, 1, none⟩ = some (v 0) := (HT0.out.1.cell (j := 0) (by omega)).1
  obtain ⟨v0, hv0⟩ : ∃ v0 : Nat → Value, v0 = v := ⟨_, rfl⟩
  have HT : Hid (Tab w g s v0 (cutTo X row 0) ∧ Step w w g v v0) := Lib.hid (by rw [hv0]; exact HT0.out)
  rw [← hv0] at cc
  obtain ⟨u, hu⟩ : ∃ u, u = v0 0 := ⟨_, rfl⟩
  have HU := Lib.hid hu
  rw [← hu] at cc
  clear hu hv0 HT0
  go_enter Try.func27, Try.ntmps27
  go_wp2_with fail
  refine (cut_id (fun x => x.1) u (X 0) row _ (HU.out ▸ HT.out.1.ownCut (j := 0) (by omega)) (HX.out 0 (by omega))).mono ?_
  rintro e w0' ⟨q, rfl, hc, hgr, hq⟩
  obtain ⟨qa, qcap, rfl, _, _⟩ := hc.form
  rw [HU.out] at hgr hq
  obtain ⟨cc', ff, hg'⟩ := HT.out.1.mid (j := 0) (by omega) hgr
  rw [← HU.out] at cc'
  have HN := Lib.hid (HT.out.1.cutStep (j := 0) (by omega) hgr hc hq HT.out.2)
  clear hc hgr hq cc hg HT HU
  replace cc' : w0'.cell? ⟨g, 1, none⟩ = some u := cc'
  replace ff : w0'.frozen? ⟨g, 1, none⟩ = false := ff
  go_upto_region 1 with fail
  refine fin (fun W => ∃ v', Tab W g s v' (cutTo X row 1) ∧ Step w W g v v') HN.out ?_
  rintro W1 ⟨v1, HT'⟩
  have HT := Lib.hid HT'
  clear HT' HN cc' ff hg'
  have hg : g < W1.heap.size := HT.out.1.blk.lt
  have cc : W1.cell? ⟨g, 2, none⟩ = some (v1 1) := (HT.out.1.cell (j := 1) (by omega)).1
  obtain ⟨u, hu⟩ : ∃ u, u = v1 1 := ⟨_, rfl⟩
  have HU := Lib.hid hu
  rw [← hu] at cc
  clear hu
  go_wp2_with fail
  refine (cut_mat (fun x => x.2.2.1) u (X 1) row _ (HU.out ▸ HT.out.1.ownCut (j := 1) (by omega)) (HX.out 1 (by omega))).mono ?_
  rintro e w1' ⟨q, rfl, hc, hgr, hq⟩
  obtain ⟨qa, qcap, rfl, _, _⟩ := hc.form
  rw [HU.out] at hgr hq
  obtain ⟨cc', ff, hg'⟩ := HT.out.1.mid (j := 1) (by omega) hgr
  rw [← HU.out] at cc'
  have HN := Lib.hid (HT.out.1.cutStep (j := 1) (by omega) hgr hc hq HT.out.2)
  clear hc hgr hq cc hg HT HU
  replace cc' : w1'.cell? ⟨g, 2, none⟩ = some u := cc'
  replace ff : w1'.frozen? ⟨g, 2, none⟩ = false := ff
  go_upto_region 2 with fail
  refine fin (fun W => ∃ v', Tab W g s v' (cutTo X row 2) ∧ Step w W g v v') HN.out ?_
  rintro W2 ⟨v2, HT'⟩
  have HT := Lib.hid HT'
  clear HT' HN cc' ff hg'
  have hg : g < W2.heap.size := HT.out.1.blk.lt
  have cc : W2.cell? ⟨g, 3, none⟩ = some (v2 2) := (HT.out.1.cell (j := 2) (by omega)).1
  obtain ⟨u, hu⟩ : ∃ u, u = v2 2 := ⟨_, rfl⟩
  have HU := Lib.hid hu
  rw [← hu] at cc
  clear hu
  go_wp2_with fail
  refine (cut_int (fun x => x.2.2.2.1) u (X 2) row _ (HU.out ▸ HT.out.1.ownCut (j := 2) (by omega)) (HX.out 2 (by omega))).mono ?_
  rintro e w2' ⟨q, rfl, hc, hgr, hq⟩
  obtain ⟨qa, qcap, rfl, _, _⟩ := hc.form
  rw [HU.out] at hgr hq
  obtain ⟨cc', ff, hg'⟩ := HT.out.1.mid (j := 2) (by omega) hgr
  rw [← HU.out] at cc'
  have HN := Lib.hid (HT.out.1.cutStep (j := 2) (by omega) hgr hc hq HT.out.2)
  clear hc hgr hq cc hg HT HU
  replace cc' : w2'.cell? ⟨g, 3, none⟩ = some u := cc'
  replace ff : w2'.frozen? ⟨g, 3, none⟩ = false := ff
  go_upto_region 3 with fail
  refine fin (fun W => ∃ v', Tab W g s v' (cutTo X row 3) ∧ Step w W g v v') HN.out ?_
  rintro W3 ⟨v3, HT'⟩
  have HT := Lib.hid HT'
  clear HT' HN cc' ff hg'
  have hg : g < W3.heap.size := HT.out.1.blk.lt
  have cc : W3.cell? ⟨g, 4, none⟩ = some (v3 3) := (HT.out.1.cell (j := 3) (by omega)).1
  obtain ⟨u, hu⟩ : ∃ u, u = v3 3 := ⟨_, rfl⟩
  have HU := Lib.hid hu
  rw [← hu] at cc
  clear hu
  go_wp2_with fail
  refine (cut_box (fun x => x.2.2.2.2.1) u (X 3) row _ (HU.out ▸ HT.out.1.ownCut (j := 3) (by omega)) (HX.out 3 (by omega))).mono ?_
  rintro e w3' ⟨q, rfl, hc, hgr, hq⟩
  obtain ⟨qa, qcap, rfl, _, _⟩ := hc.form
  rw [HU.out] at hgr hq
  obtain ⟨cc', ff, hg'⟩ := HT.out.1.mid (j := 3) (by omega) hgr
  rw [← HU.out] at cc'
  have HN := Lib.hid (HT.out.1.cutStep (j := 3) (by omega) hgr hc hq HT.out.2)
  clear hc hgr hq cc hg HT HU
  replace cc' : w3'.cell? ⟨g, 4, none⟩ = some u := cc'
  replace ff : w3'.frozen? ⟨g, 4, none⟩ = false := ff
  go_upto_region 4 with fail
  refine fin (fun W => ∃ v', Tab W g s v' (cutTo X row 4) ∧ Step w W g v v') HN.out ?_
  rintro W4 ⟨v4, HT'⟩
  have HT := Lib.hid HT'
  clear HT' HN cc' ff hg'
  have hg : g < W4.heap.size := HT.out.1.blk.lt
  have cc : W4.cell? ⟨g, 5, none⟩ = some (v4 4) := (HT.out.1.cell (j := 4) (by omega)).1
  obtain ⟨u, hu⟩ : ∃ u, u = v4 4 := ⟨_, rfl⟩
  have HU := Lib.hid hu
  rw [← hu] at cc
  clear hu
  go_wp2_with fail
  refine (cut_int (fun x => x.2.2.2.2.2.1) u (X 4) row _ (HU.out ▸ HT.out.1.ownCut (j := 4) (by omega)) (HX.out 4 (by omega))).mono ?_
  rintro e w4' ⟨q, rfl, hc, hgr, hq⟩
  obtain ⟨qa, qcap, rfl, _, _⟩ := hc.form
  rw [HU.out] at hgr hq
  obtain ⟨cc', ff, hg'⟩ := HT.out.1.mid (j := 4) (by omega) hgr
  rw [← HU.out] at cc'
  have HN := Lib.hid (HT.out.1.cutStep (j := 4) (by omega) hgr hc hq HT.out.2)
  clear hc hgr hq cc hg HT HU
  replace cc' : w4'.cell? ⟨g, 5, none⟩ = some u := cc'
  replace ff : w4'.frozen? ⟨g, 5, none⟩ = false := ff
  go_upto_region 5 with fail
  refine fin (fun W => ∃ v', Tab W g s v' (cutTo X row 5) ∧ Step w W g v v') HN.out ?_
  rintro W5 ⟨v5, HT'⟩
  have HT := Lib.hid HT'
  clear HT' HN cc' ff hg'
  have hg : g < W5.heap.size := HT.out.1.blk.lt
  have cc : W5.cell? ⟨g, 6, none⟩ = some (v5 5) := (HT.out.1.cell (j := 5) (by omega)).1
  obtain ⟨u, hu⟩ : ∃ u, u = v5 5 := ⟨_, rfl⟩
  have HU := Lib.hid hu
  rw [← hu] at cc
  clear hu
  go_wp2_with fail
  refine (cut_int (fun x => x.2.2.2.2.2.2.1) u (X 5) row _ (HU.out ▸ HT.out.1.ownCut (j := 5) (by omega)) (HX.out 5 (by omega))).mono ?_
  rintro e w5' ⟨q, rfl, hc, hgr, hq⟩
  obtain ⟨qa, qcap, rfl, _, _⟩ := hc.form
  rw [HU.out] at hgr hq
  obtain ⟨cc', ff, hg'⟩ := HT.out.1.mid (j := 5) (by omega) hgr
  rw [← HU.out] at cc'
  have HN := Lib.hid (HT.out.1.cutStep (j := 5) (by omega) hgr hc hq HT.out.2)
  clear hc hgr hq cc hg HT HU
  replace cc' : w5'.cell? ⟨g, 6, none⟩ = some u := cc'
  replace ff : w5'.frozen? ⟨g, 6, none⟩ = false := ff
  go_upto_region 6 with fail
  refine fin (fun W => ∃ v', Tab W g s v' (cutTo X row 6) ∧ Step w W g v v') HN.out ?_
  rintro W6 ⟨v6, HT'⟩
  have HT := Lib.hid HT'
  clear HT' HN cc' ff hg'
  have hg : g < W6.heap.size := HT.out.1.blk.lt
  have cc : W6.cell? ⟨g, 7, none⟩ = some (v6 6) := (HT.out.1.cell (j := 6) (by omega)).1
  obtain ⟨u, hu⟩ : ∃ u, u = v6 6 := ⟨_, rfl⟩
  have HU := Lib.hid hu
  rw [← hu] at cc
  clear hu
  go_wp2_with fail
  refine (cut_bool (fun x => x.2.2.2.2.2.2.2.1) u (X 6) row _ (HU.out ▸ HT.out.1.ownCut (j := 6) (by omega)) (HX.out 6 (by omega))).mono ?_
  rintro e w6' ⟨q, rfl, hc, hgr, hq⟩
  obtain ⟨qa, qcap, rfl, _, _⟩ := hc.form
  rw [HU.out] at hgr hq
  obtain ⟨cc', ff, hg'⟩ := HT.out.1.mid (j := 6) (by omega) hgr
  rw [← HU.out] at cc'
  have HN := Lib.hid (HT.out.1.cutStep (j := 6) (by omega) hgr hc hq HT.out.2)
  clear hc hgr hq cc hg HT HU
  replace cc' : w6'.cell? ⟨g, 7, none⟩ = some u := cc'
  replace ff : w6'.frozen? ⟨g, 7, none⟩ = false := ff
  go_upto_region 7 with fail
  refine fin (fun W => ∃ v', Tab W g s v' (cutTo X row 7) ∧ Step w W g v v') HN.out ?_
  rintro W7 ⟨v7, HT'⟩
  have HT := Lib.hid HT'
  clear HT' HN cc' ff hg'
  have hg : g < W7.heap.size := HT.out.1.blk.lt
  have cc : W7.cell? ⟨g, 8, none⟩ = some (v7 7) := (HT.out.1.cell (j := 7) (by omega)).1
  obtain ⟨u, hu⟩ : ∃ u, u = v7 7 := ⟨_, rfl⟩
  have HU := Lib.hid hu
  rw [← hu] at cc
  clear hu
  go_wp2_with fail
  refine (cut_int (fun x => x.2.2.2.2.2.2.2.2) u (X 7) row _ (HU.out ▸ HT.out.1.ownCut (j := 7) (by omega)) (HX.out 7 (by omega))).mono ?_
  rintro e w7' ⟨q, rfl, hc, hgr, hq⟩
  obtain ⟨qa, qcap, rfl, _, _⟩ := hc.form
  rw [HU.out] at hgr hq
  obtain ⟨cc', ff, hg'⟩ := HT.out.1.mid (j := 7) (by omega) hgr
  rw [← HU.out] at cc'
  have HN := Lib.hid (HT.out.1.cutStep (j := 7) (by omega) hgr hc hq HT.out.2)
  clear hc hgr hq cc hg HT HU
  replace cc' : w7'.cell? ⟨g, 8, none⟩ = some u := cc'
  replace ff : w7'.frozen? ⟨g, 8, none⟩ = false := ff
  go_wp2
  go_end0
  obtain ⟨v', h1, h2⟩ := HN.out
  exact ⟨rfl, v', h1.ext (fun i hi => by unfold cutTo; rw [if_pos hi]), h2⟩

end Go.Proofs.Ytpobnmcjmclgbaa
