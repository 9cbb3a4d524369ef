/-
  2 texts in one file, each with its own heading.
-/
import Derived.Test.YtkondkajpmafkaaGreatMT15
import Derived.Deep.RegionHeld3
import Derived.Deep.QuietTactic
import Derived.Maps.AppendAt
import Derived.Deep.Cut
import Derived.Deep.CutRange
/-
  A table as it landed: which rows its columns hold; what Len, there and Find answer.
-/
namespace Go.Proofs.YtkondkajpmafkaaGreat
open Go.RowKit

def hasC (s : Int) (i : Nat) : Bool := if i = 0 then true else if i = 1 then hasN s 0 else if i ≤ 3 then hasN s 1 else if i ≤ 6 then hasN s 2 else hasN s 3
def Rs (s : Int) (R : TR) (i : Nat) : TR := if hasC s i then R else []
theorem Rs0 (s : Int) (R : TR) : Rs s R 0 = R := rfl
theorem Rs_len (s : Int) (R : TR) (i : Nat) : (Rs s R i).length ≤ R.length := by
  unfold Rs
  split
  · exact Nat.le_refl _
  · simp
def TBl (w : World) (g : Nat) (L : Nat → Prop) (s : Int) (R : TR) : Prop := ∃ v, Tab w g s v (Rs s R) ∧ (∀ b, L b ↔ foot g v b) ∧ (0 ≤ s ∧ s ≤ 31) ∧ ∀ x ∈ R, fitsB s x.2 = true
theorem Fr.of {w w' : World} {L M : Nat → Prop} (h : Fr w w' L) (e : ∀ b, L b → M b) : Fr w w' M := ⟨h.1, h.2.1, h.2.2.1, h.2.2.2.1, fun b hb hn => h.2.2.2.2 b hb (fun c => hn (e b c))⟩

set_option maxHeartbeats 1000000 in
set_option maxRecDepth 100000 in
theorem tlen_any {g : Nat} {s : Int} {v : Nat → Value} {X : Nat → TR} {w : World} (h : Tab w g s v X) :
    Calls Tryz.prog 142 #[.pointer (some ⟨g, 0, none⟩)] w fun e w' => e = .returned (.int .i64 ((X 0).length : Nat)) ∧ w = w' := by
  have c1 : w.cell? ⟨g, 1, none⟩ = some (v 0) := (h.cell (j := 0) (by omega)).1
  have hg := h.blk.lt
  obtain ⟨a, cap, hv, hcap, hmax⟩ := (h.own 0 (by omega)).form
  rw [hv] at c1
  obtain ⟨n, hn⟩ : ∃ n, n = (X 0).length := ⟨_, rfl⟩
  rw [← hn] at c1 hcap ⊢
  clear hn hv h
  go_enter Tryz.func142, Tryz.ntmps142
  go_wp2
  go_ret
  exact ⟨rfl, rfl⟩

def thB (n : Nat) (row : Int) : Bool := decide (0 ≤ row) && decide (row < (n : Int))
set_option maxHeartbeats 1000000 in
set_option maxRecDepth 100000 in
theorem there_any {g : Nat} {s : Int} {v : Nat → Value} {X : Nat → TR} {w : World} (h : Tab w g s v X) (row : Int) {b : Bool} (hb : thB (X 0).length row = b) :
    Calls Tryz.prog 121 #[.pointer (some ⟨g, 0, none⟩), .int .i64 row] w fun e w' => e = .returned (.bool b) ∧ w = w' := by
  subst hb
  unfold thB
  have HT := Lib.hid h
  clear h
  by_cases h0 : 0 ≤ row
  · have g0 : decide (0 ≤ row) = true := by simpa using h0
    go_enter Tryz.func121, Tryz.ntmps121
    go_wp2_with fail
    refine (tlen_any HT.out).mono ?_
    rintro e w1 ⟨rfl, rfl⟩
    go_wp2
    go_ret
    exact ⟨by rw [g0]; rfl, rfl⟩
  · have g0 : decide (0 ≤ row) = false := by simpa using h0
    go_enter Tryz.func121, Tryz.ntmps121
    go_wp2
    go_ret
    exact ⟨rfl, rfl⟩

theorem find_no {X : TR} {id : Int} {k : Nat} (hl : X.length ≤ k) (h : ∀ j, j < k → (X.getD j d0).1 ≠ id) : findI X id = -1 := by
  unfold findI
  have : X.findIdx? (fun r => r.1 == id) = none := List.findIdx?_eq_none_iff.2 (fun x hx => by
    obtain ⟨j, hj, rfl⟩ := List.mem_iff_getElem.1 hx
    have := h j (by omega)
    simpa [List.getD, List.getElem?_eq_getElem hj] using this)
  rw [this]
theorem find_yes {X : TR} {id : Int} {k : Nat} (hl : k < X.length) (h : ∀ j, j < k → (X.getD j d0).1 ≠ id) (hk : (X.getD k d0).1 = id) : findI X id = (k : Int) := by
  unfold findI
  have : X.findIdx? (fun r => r.1 == id) = some k := by
    rw [List.findIdx?_eq_some_iff_getElem]
    refine ⟨hl, ?_, fun j hj => ?_⟩
    · simpa [List.getD, List.getElem?_eq_getElem hl] using hk
    · have := h j hj
      simpa [List.getD, List.getElem?_eq_getElem (show j < X.length by omega)] using this
  rw [this]
set_option maxHeartbeats 1000000 in
set_option maxRecDepth 100000 in
theorem index_any (v : Value) (X : TR) (id : Int) (w : World) (h : ColX w 31 1 cId v X) (hX : X.length ≤ 1000) :
    Calls Tryz.prog 141 #[v, .int .i64 id] w fun e w' => e = .returned (.int .i64 (findI X id)) ∧ w = w' := by
  obtain ⟨a, cap, rfl, hcap, hmax⟩ := h.form
  have HX := Lib.hid h
  obtain ⟨n, hn⟩ : ∃ n, n = X.length := ⟨_, rfl⟩
  rw [← hn] at hX hcap HX ⊢
  have HN := Lib.hid hn
  clear h hn
  go_enter Tryz.func141, Tryz.ntmps141
  go_wp2
  go_loopw [5, 8] (fun _ i wr => ∃ j : Nat, j ≤ n ∧ i = .int .i64 j ∧ (∀ q, q < j → (X.getD q d0).1 ≠ id) ∧ wr = w) (fun _ i _ => n - (intOf i).toNat)
  case atStart => exact ⟨0, by omega, rfl, fun q hq => by omega, rfl⟩
  case round =>
    obtain ⟨j, hj, rfl, hz, rfl⟩ := hrel
    have HZ := Lib.hid hz
    clear hz
    by_cases hlt : j < n
    · obtain ⟨g, cap', cur, hv, hbk, _⟩ := HX.out.open_ (by rw [← HN.out]; omega)
      injection hv with h1 h2 h3
      subst h1
      have c0 := range1 (ColX.range (c := cId) (k := 1) (fun _ => rfl) HX.out (getD_at (i := j) (by rw [← HN.out]; omega)))
      have hg := hbk.lt
      have j0 : (0 : Int) ≤ (j : Int) := by omega
      have j1 : (j : Int) < (n : Int) := by omega
      clear hbk h2 h3
      obtain ⟨y, hy⟩ : ∃ y, y = (X.getD j d0).1 := ⟨_, rfl⟩
      rw [← hy] at c0
      have HY := Lib.hid hy
      clear hy
      by_cases he : id = y
      · have he' : (id == y) = true := by simpa using he
        have HE := Lib.hid he
        clear he
        go_wp2
        go_ret
        exact ⟨by rw [find_yes (by rw [← HN.out]; exact hlt) HZ.out (by rw [← HY.out, HE.out])]; rfl, rfl⟩
      · have he' : (id == y) = false := by simpa using he
        have HE := Lib.hid he
        clear he
        go_wp2
        go_roundw
        case rel => exact ⟨j + 1, by omega, by go_num, fun q hq => by
          rcases Nat.lt_succ_iff_lt_or_eq.1 hq with c | c
          · exact HZ.out q c
          · rw [c, ← HY.out]; exact fun c => HE.out c.symm, by trivial⟩
        case measure => simp [intOf] <;> omega
    · obtain rfl : j = n := by omega
      go_wp2
      go_ret
      exact ⟨by rw [find_no (by rw [← HN.out]; exact Nat.le_refl _) HZ.out]; rfl, rfl⟩
set_option maxHeartbeats 1000000 in
set_option maxRecDepth 100000 in
theorem find_any {g : Nat} {s : Int} {v : Nat → Value} {X : Nat → TR} {w : World} (h : Tab w g s v X) (hX : (X 0).length ≤ 1000) (id : Int) :
    Calls Tryz.prog 120 #[.pointer (some ⟨g, 0, none⟩), .int .i64 id] w fun e w' => e = .returned (.int .i64 (findI (X 0) id)) ∧ w = w' := by
  have c1 : w.cell? ⟨g, 1, none⟩ = some (v 0) := (h.cell (j := 0) (by omega)).1
  have hg := h.blk.lt
  have HO := Lib.hid (h.own 0 (by omega))
  obtain ⟨u, hu⟩ : ∃ u, u = v 0 := ⟨_, rfl⟩
  rw [← hu] at c1 HO
  clear hu h
  go_enter Tryz.func120, Tryz.ntmps120
  go_wp2_with fail
  refine (index_any u (X 0) id w HO.out hX).mono ?_
  rintro e w1 ⟨rfl, rfl⟩
  go_wp2
  go_ret
  exact ⟨rfl, rfl⟩

def cutTo (X : Nat → TR) (row m i : Nat) : TR := if i < m then cutL (X i) row else X i
theorem cutTo_at (X : Nat → TR) (row j : Nat) : cutTo X row j j = X j := by unfold cutTo; rw [if_neg (by omega)]
theorem Tab.ownCut {w : World} {g : Nat} {s : Int} {v : Nat → Value} {X : Nat → TR} {row j : Nat} (h : Tab w g s v (cutTo X row j)) (hj : j < 8) : Col w j (v j) (X j) := cutTo_at X row j ▸ h.own j hj
theorem Tab.mid {w w1 : World} {g : Nat} {s : Int} {v : Nat → Value} {X : Nat → TR} {j : Nat} (h : Tab w g s v X) (hj : j < 8) (hg : w.grownBy w1 (v j).ownBlock) : w1.cell? ⟨g, 1 + j, none⟩ = some (v j) ∧ w1.frozen? ⟨g, 1 + j, none⟩ = false ∧ g < w1.heap.size := by
  have hk : Blk w1 g 186 (tcells s v) := h.blk.same (hg.block g h.blk.lt (fun e => h.off j hj e.symm))
  exact ⟨by rw [hk.cell, tcells_at hj], hk.frozen _, hk.lt⟩
theorem Tab.cutStep {w w1 w0 : World} {g : Nat} {s : Int} {v v0 : Nat → Value} {X : Nat → TR} {row j : Nat} {u : Value} (h : Tab w g s v (cutTo X row j)) (hj : j < 8) (hg : w.grownBy w1 (v j).ownBlock) (hc : Col w1 j u (cutL (X j) row)) (hu : u.ownBlock = (v j).ownBlock) (st : Step w0 w g v0 v) :
    ∃ v', Tab (w1.setCell ⟨g, 1 + j, none⟩ u) g s v' (cutTo X row (j + 1)) ∧ Step w0 (w1.setCell ⟨g, 1 + j, none⟩ u) g v0 v' := by
  obtain ⟨h1, h2⟩ := h.assign hj hg hc (fun b hb => Or.inl (hu ▸ hb))
  refine ⟨_, h1.ext (fun i _ => ?_), st.trans h2⟩
  unfold upc cutTo
  by_cases e : i = j
  · subst e; rw [if_pos rfl, if_pos (by omega)]
  · rw [if_neg e]
    by_cases c : i < j
    · rw [if_pos c, if_pos (by omega)]
    · rw [if_neg c, if_neg (by omega)]

set_option maxHeartbeats 4000000 in
set_option maxRecDepth 100000 in
theorem shorten_any {g : Nat} {s : Int} {v : Nat → Value} {X : Nat → TR} {w : World} (h : Tab w g s v X) (hX : ∀ i, i < 8 → (X i).length ≤ 1000) (row : Nat) :
    Calls Tryz.prog 167 #[.pointer (some ⟨g, 1, none⟩), .int .i64 row] w fun e w' => e = .returned (.tuple #[]) ∧ ∃ v', Tab w' g s v' (fun i => cutL (X i) row) ∧ Step w w' g v v' := by
  have HX := Lib.hid hX
  have HT0 : Hid (Tab w g s v (cutTo X row 0) ∧ Step w w g v v) := Lib.hid ⟨h.ext (fun i _ => by unfold cutTo; rw [if_neg (by omega)]), Step.refl _ _ _⟩
  clear hX h
  have hg : g < w.heap.size := HT0.out.1.blk.lt
  have cc : w.cell? ⟨g, 1, none⟩ = some (v 0) := (HT0.out.1.cell (j := 0) (by omega)).1
  obtain ⟨v0, hv0⟩ : ∃ v0 : Nat → Value, v0 = v := ⟨_, rfl⟩
  have HT : Hid (Tab w g s v0 (cutTo X row 0) ∧ Step w w g v v0) := Lib.hid (by rw [hv0]; exact HT0.out)
  rw [← hv0] at cc
  obtain ⟨u, hu⟩ : ∃ u, u = v0 0 := ⟨_, rfl⟩
  have HU := Lib.hid hu
  rw [← hu] at cc
  clear hu hv0 HT0
  go_enter Tryz.func167, Tryz.ntmps167
  go_wp2_with fail
  refine (cut_id (fun x => x.1) u (X 0) row _ (HU.out ▸ HT.out.1.ownCut (j := 0) (by omega)) (HX.out 0 (by omega))).mono ?_
  rintro e w0' ⟨q, rfl, hc, hgr, hq⟩
  obtain ⟨qa, qcap, rfl, _, _⟩ := hc.form
  rw [HU.out] at hgr hq
  obtain ⟨cc', ff, hg'⟩ := HT.out.1.mid (j := 0) (by omega) hgr
  rw [← HU.out] at cc'
  have HN := Lib.hid (HT.out.1.cutStep (j := 0) (by omega) hgr hc hq HT.out.2)
  clear hc hgr hq cc hg HT HU
  replace cc' : w0'.cell? ⟨g, 1, none⟩ = some u := cc'
  replace ff : w0'.frozen? ⟨g, 1, none⟩ = false := ff
  go_upto_region 1 with fail
  refine fin (fun W => ∃ v', Tab W g s v' (cutTo X row 1) ∧ Step w W g v v') HN.out ?_
  rintro W1 ⟨v1, HT'⟩
  have HT := Lib.hid HT'
  clear HT' HN cc' ff hg'
  have hg : g < W1.heap.size := HT.out.1.blk.lt
  have cc : W1.cell? ⟨g, 2, none⟩ = some (v1 1) := (HT.out.1.cell (j := 1) (by omega)).1
  obtain ⟨u, hu⟩ : ∃ u, u = v1 1 := ⟨_, rfl⟩
  have HU := Lib.hid hu
  rw [← hu] at cc
  clear hu
  go_wp2_with fail
  refine (cut_mat (fun x => x.2.2.1) u (X 1) row _ (HU.out ▸ HT.out.1.ownCut (j := 1) (by omega)) (HX.out 1 (by omega))).mono ?_
  rintro e w1' ⟨q, rfl, hc, hgr, hq⟩
  obtain ⟨qa, qcap, rfl, _, _⟩ := hc.form
  rw [HU.out] at hgr hq
  obtain ⟨cc', ff, hg'⟩ := HT.out.1.mid (j := 1) (by omega) hgr
  rw [← HU.out] at cc'
  have HN := Lib.hid (HT.out.1.cutStep (j := 1) (by omega) hgr hc hq HT.out.2)
  clear hc hgr hq cc hg HT HU
  replace cc' : w1'.cell? ⟨g, 2, none⟩ = some u := cc'
  replace ff : w1'.frozen? ⟨g, 2, none⟩ = false := ff
  go_upto_region 2 with fail
  refine fin (fun W => ∃ v', Tab W g s v' (cutTo X row 2) ∧ Step w W g v v') HN.out ?_
  rintro W2 ⟨v2, HT'⟩
  have HT := Lib.hid HT'
  clear HT' HN cc' ff hg'
  have hg : g < W2.heap.size := HT.out.1.blk.lt
  have cc : W2.cell? ⟨g, 3, none⟩ = some (v2 2) := (HT.out.1.cell (j := 2) (by omega)).1
  obtain ⟨u, hu⟩ : ∃ u, u = v2 2 := ⟨_, rfl⟩
  have HU := Lib.hid hu
  rw [← hu] at cc
  clear hu
  go_wp2_with fail
  refine (cut_int (fun x => x.2.2.2.1) u (X 2) row _ (HU.out ▸ HT.out.1.ownCut (j := 2) (by omega)) (HX.out 2 (by omega))).mono ?_
  rintro e w2' ⟨q, rfl, hc, hgr, hq⟩
  obtain ⟨qa, qcap, rfl, _, _⟩ := hc.form
  rw [HU.out] at hgr hq
  obtain ⟨cc', ff, hg'⟩ := HT.out.1.mid (j := 2) (by omega) hgr
  rw [← HU.out] at cc'
  have HN := Lib.hid (HT.out.1.cutStep (j := 2) (by omega) hgr hc hq HT.out.2)
  clear hc hgr hq cc hg HT HU
  replace cc' : w2'.cell? ⟨g, 3, none⟩ = some u := cc'
  replace ff : w2'.frozen? ⟨g, 3, none⟩ = false := ff
  go_upto_region 3 with fail
  refine fin (fun W => ∃ v', Tab W g s v' (cutTo X row 3) ∧ Step w W g v v') HN.out ?_
  rintro W3 ⟨v3, HT'⟩
  have HT := Lib.hid HT'
  clear HT' HN cc' ff hg'
  have hg : g < W3.heap.size := HT.out.1.blk.lt
  have cc : W3.cell? ⟨g, 4, none⟩ = some (v3 3) := (HT.out.1.cell (j := 3) (by omega)).1
  obtain ⟨u, hu⟩ : ∃ u, u = v3 3 := ⟨_, rfl⟩
  have HU := Lib.hid hu
  rw [← hu] at cc
  clear hu
  go_wp2_with fail
  refine (cut_box (fun x => x.2.2.2.2.1) u (X 3) row _ (HU.out ▸ HT.out.1.ownCut (j := 3) (by omega)) (HX.out 3 (by omega))).mono ?_
  rintro e w3' ⟨q, rfl, hc, hgr, hq⟩
  obtain ⟨qa, qcap, rfl, _, _⟩ := hc.form
  rw [HU.out] at hgr hq
  obtain ⟨cc', ff, hg'⟩ := HT.out.1.mid (j := 3) (by omega) hgr
  rw [← HU.out] at cc'
  have HN := Lib.hid (HT.out.1.cutStep (j := 3) (by omega) hgr hc hq HT.out.2)
  clear hc hgr hq cc hg HT HU
  replace cc' : w3'.cell? ⟨g, 4, none⟩ = some u := cc'
  replace ff : w3'.frozen? ⟨g, 4, none⟩ = false := ff
  go_upto_region 4 with fail
  refine fin (fun W => ∃ v', Tab W g s v' (cutTo X row 4) ∧ Step w W g v v') HN.out ?_
  rintro W4 ⟨v4, HT'⟩
  have HT := Lib.hid HT'
  clear HT' HN cc' ff hg'
  have hg : g < W4.heap.size := HT.out.1.blk.lt
  have cc : W4.cell? ⟨g, 5, none⟩ = some (v4 4) := (HT.out.1.cell (j := 4) (by omega)).1
  obtain ⟨u, hu⟩ : ∃ u, u = v4 4 := ⟨_, rfl⟩
  have HU := Lib.hid hu
  rw [← hu] at cc
  clear hu
  go_wp2_with fail
  refine (cut_int (fun x => x.2.2.2.2.2.1) u (X 4) row _ (HU.out ▸ HT.out.1.ownCut (j := 4) (by omega)) (HX.out 4 (by omega))).mono ?_
  rintro e w4' ⟨q, rfl, hc, hgr, hq⟩
  obtain ⟨qa, qcap, rfl, _, _⟩ := hc.form
  rw [HU.out] at hgr hq
  obtain ⟨cc', ff, hg'⟩ := HT.out.1.mid (j := 4) (by omega) hgr
  rw [← HU.out] at cc'
  have HN := Lib.hid (HT.out.1.cutStep (j := 4) (by omega) hgr hc hq HT.out.2)
  clear hc hgr hq cc hg HT HU
  replace cc' : w4'.cell? ⟨g, 5, none⟩ = some u := cc'
  replace ff : w4'.frozen? ⟨g, 5, none⟩ = false := ff
  go_upto_region 5 with fail
  refine fin (fun W => ∃ v', Tab W g s v' (cutTo X row 5) ∧ Step w W g v v') HN.out ?_
  rintro W5 ⟨v5, HT'⟩
  have HT := Lib.hid HT'
  clear HT' HN cc' ff hg'
  have hg : g < W5.heap.size := HT.out.1.blk.lt
  have cc : W5.cell? ⟨g, 6, none⟩ = some (v5 5) := (HT.out.1.cell (j := 5) (by omega)).1
  obtain ⟨u, hu⟩ : ∃ u, u = v5 5 := ⟨_, rfl⟩
  have HU := Lib.hid hu
  rw [← hu] at cc
  clear hu
  go_wp2_with fail
  refine (cut_int (fun x => x.2.2.2.2.2.2.1) u (X 5) row _ (HU.out ▸ HT.out.1.ownCut (j := 5) (by omega)) (HX.out 5 (by omega))).mono ?_
  rintro e w5' ⟨q, rfl, hc, hgr, hq⟩
  obtain ⟨qa, qcap, rfl, _, _⟩ := hc.form
  rw [HU.out] at hgr hq
  obtain ⟨cc', ff, hg'⟩ := HT.out.1.mid (j := 5) (by omega) hgr
  rw [← HU.out] at cc'
  have HN := Lib.hid (HT.out.1.cutStep (j := 5) (by omega) hgr hc hq HT.out.2)
  clear hc hgr hq cc hg HT HU
  replace cc' : w5'.cell? ⟨g, 6, none⟩ = some u := cc'
  replace ff : w5'.frozen? ⟨g, 6, none⟩ = false := ff
  go_upto_region 6 with fail
  refine fin (fun W => ∃ v', Tab W g s v' (cutTo X row 6) ∧ Step w W g v v') HN.out ?_
  rintro W6 ⟨v6, HT'⟩
  have HT := Lib.hid HT'
  clear HT' HN cc' ff hg'
  have hg : g < W6.heap.size := HT.out.1.blk.lt
  have cc : W6.cell? ⟨g, 7, none⟩ = some (v6 6) := (HT.out.1.cell (j := 6) (by omega)).1
  obtain ⟨u, hu⟩ : ∃ u, u = v6 6 := ⟨_, rfl⟩
  have HU := Lib.hid hu
  rw [← hu] at cc
  clear hu
  go_wp2_with fail
  refine (cut_bool (fun x => x.2.2.2.2.2.2.2.1) u (X 6) row _ (HU.out ▸ HT.out.1.ownCut (j := 6) (by omega)) (HX.out 6 (by omega))).mono ?_
  rintro e w6' ⟨q, rfl, hc, hgr, hq⟩
  obtain ⟨qa, qcap, rfl, _, _⟩ := hc.form
  rw [HU.out] at hgr hq
  obtain ⟨cc', ff, hg'⟩ := HT.out.1.mid (j := 6) (by omega) hgr
  rw [← HU.out] at cc'
  have HN := Lib.hid (HT.out.1.cutStep (j := 6) (by omega) hgr hc hq HT.out.2)
  clear hc hgr hq cc hg HT HU
  replace cc' : w6'.cell? ⟨g, 7, none⟩ = some u := cc'
  replace ff : w6'.frozen? ⟨g, 7, none⟩ = false := ff
  go_upto_region 7 with fail
  refine fin (fun W => ∃ v', Tab W g s v' (cutTo X row 7) ∧ Step w W g v v') HN.out ?_
  rintro W7 ⟨v7, HT'⟩
  have HT := Lib.hid HT'
  clear HT' HN cc' ff hg'
  have hg : g < W7.heap.size := HT.out.1.blk.lt
  have cc : W7.cell? ⟨g, 8, none⟩ = some (v7 7) := (HT.out.1.cell (j := 7) (by omega)).1
  obtain ⟨u, hu⟩ : ∃ u, u = v7 7 := ⟨_, rfl⟩
  have HU := Lib.hid hu
  rw [← hu] at cc
  clear hu
  go_wp2_with fail
  refine (cut_int (fun x => x.2.2.2.2.2.2.2.2) u (X 7) row _ (HU.out ▸ HT.out.1.ownCut (j := 7) (by omega)) (HX.out 7 (by omega))).mono ?_
  rintro e w7' ⟨q, rfl, hc, hgr, hq⟩
  obtain ⟨qa, qcap, rfl, _, _⟩ := hc.form
  rw [HU.out] at hgr hq
  obtain ⟨cc', ff, hg'⟩ := HT.out.1.mid (j := 7) (by omega) hgr
  rw [← HU.out] at cc'
  have HN := Lib.hid (HT.out.1.cutStep (j := 7) (by omega) hgr hc hq HT.out.2)
  clear hc hgr hq cc hg HT HU
  replace cc' : w7'.cell? ⟨g, 8, none⟩ = some u := cc'
  replace ff : w7'.frozen? ⟨g, 8, none⟩ = false := ff
  go_wp2
  go_end0
  obtain ⟨v', h1, h2⟩ := HN.out
  exact ⟨rfl, v', h1.ext (fun i hi => by unfold cutTo; rw [if_pos hi]), h2⟩

end Go.Proofs.YtkondkajpmafkaaGreat
