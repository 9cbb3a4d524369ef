/-
  4 texts in one file, each with its own heading.
-/
import Derived.Test.YthhfcedhbfandaaGreatMS09
import Derived.Deep.RegionHeld3
import Derived.Deep.QuietTactic
import Derived.Maps.AppendAt
import Derived.Deep.Cut
import Derived.Deep.CutRange
/-
  A table as it landed: which rows its columns hold; what Len, there and Find answer.
-/
namespace Go.Proofs.YthhfcedhbfandaaGreat
open Go.RowKit

def hasC (s : Int) (i : Nat) : Bool := if i = 0 then true else if i = 1 then hasN s 0 else if i ≤ 3 then hasN s 1 else if i ≤ 6 then hasN s 2 else hasN s 3
def Rs (s : Int) (R : TR) (i : Nat) : TR := if hasC s i then R else []
theorem Rs0 (s : Int) (R : TR) : Rs s R 0 = R := rfl
theorem Rs_len (s : Int) (R : TR) (i : Nat) : (Rs s R i).length ≤ R.length := by
  unfold Rs
  split
  · exact Nat.le_refl _
  · simp
def TBl (w : World) (g : Nat) (L : Nat → Prop) (s : Int) (R : TR) : Prop := ∃ v, Tab w g s v (Rs s R) ∧ (∀ b, L b ↔ foot g v b) ∧ (0 ≤ s ∧ s ≤ 31) ∧ ∀ x ∈ R, fitsB s x.2 = true
theorem Fr.of {w w' : World} {L M : Nat → Prop} (h : Fr w w' L) (e : ∀ b, L b → M b) : Fr w w' M := ⟨h.1, h.2.1, h.2.2.1, h.2.2.2.1, fun b hb hn => h.2.2.2.2 b hb (fun c => hn (e b c))⟩

set_option maxHeartbeats 1000000 in
set_option maxRecDepth 100000 in
theorem tlen_any {g : Nat} {s : Int} {v : Nat → Value} {X : Nat → TR} {w : World} (h : Tab w g s v X) :
    Calls Tryz.prog 243 #[.pointer (some ⟨g, 0, none⟩)] w fun e w' => e = .returned (.int .i64 ((X 0).length : Nat)) ∧ w = w' := by
  have c1 : w.cell? ⟨g, 1, none⟩ = some (v 0) := (h.cell (j := 0) (by omega)).1
  have hg := h.blk.lt
  obtain ⟨a, cap, hv, hcap, hmax⟩ := (h.own 0 (by omega)).form
  rw [hv] at c1
  obtain ⟨n, hn⟩ : ∃ n, n = (X 0).length := ⟨_, rfl⟩
  rw [← hn] at c1 hcap ⊢
  clear hn hv h
  go_enter Tryz.func243, Tryz.ntmps243
  go_wp2
  go_ret
  exact ⟨rfl, rfl⟩

def thB (n : Nat) (row : Int) : Bool := decide (0 ≤ row) && decide (row < (n : Int))
set_option maxHeartbeats 1000000 in
set_option maxRecDepth 100000 in
theorem there_any {g : Nat} {s : Int} {v : Nat → Value} {X : Nat → TR} {w : World} (h : Tab w g s v X) (row : Int) {b : Bool} (hb : thB (X 0).length row = b) :
    Calls Tryz.prog 247 #[.pointer (some ⟨g, 0, none⟩), .int .i64 row] w fun e w' => e = .returned (.bool b) ∧ w = w' := by
  subst hb
  unfold thB
  have HT := Lib.hid h
  clear h
  by_cases h0 : 0 ≤ row
  · have g0 : decide (0 ≤ row) = true := by simpa using h0
    go_enter Tryz.func247, Tryz.ntmps247
    go_wp2_with fail
    refine (tlen_any HT.out).mono ?_
    rintro e w1 ⟨rfl, rfl⟩
    go_wp2
    go_ret
    exact ⟨by rw [g0]; rfl, rfl⟩
  · have g0 : decide (0 ≤ row) = false := by simpa using h0
    go_enter Tryz.func247, Tryz.ntmps247
    go_wp2
    go_ret
    exact ⟨rfl, rfl⟩

theorem find_no {X : TR} {id : Int} {k : Nat} (hl : X.length ≤ k) (h : ∀ j, j < k → (X.getD j d0).1 ≠ id) : findI X id = -1 := by
  unfold findI
  have : X.findIdx? (fun r => r.1 == id) = none := List.findIdx?_eq_none_iff.2 (fun x hx => by
    obtain ⟨j, hj, rfl⟩ := List.mem_iff_getElem.1 hx
    have := h j (by omega)
    simpa [List.getD, List.getElem?_eq_getElem hj] using this)
  rw [this]
theorem find_yes {X : TR} {id : Int} {k : Nat} (hl : k < X.length) (h : ∀ j, j < k → (X.getD j d0).1 ≠ id) (hk : (X.getD k d0).1 = id) : findI X id = (k : Int) := by
  unfold findI
  have : X.findIdx? (fun r => r.1 == id) = some k := by
    rw [List.findIdx?_eq_some_iff_getElem]
    refine ⟨hl, ?_, fun j hj => ?_⟩
    · simpa [List.getD, List.getElem?_eq_getElem hl] using hk
    · have := h j hj
      simpa [List.getD, List.getElem?_eq_getElem (show j < X.length by omega)] using this
  rw [this]
set_option maxHeartbeats 1000000 in
set_option maxRecDepth 100000 in
theorem index_any (v : Value) (X : TR) (id : Int) (w : World) (h : ColX w 81 1 cId v X) (hX : X.length ≤ 1000) :
    Calls Tryz.prog 279 #[v, .int .i64 id] w fun e w' => e = .returned (.int .i64 (findI X id)) ∧ w = w' := by
  obtain ⟨a, cap, rfl, hcap, hmax⟩ := h.form
  have HX := Lib.hid h
  obtain ⟨n, hn⟩ : ∃ n, n = X.length := ⟨_, rfl⟩
  rw [← hn] at hX hcap HX ⊢
  have HN := Lib.hid hn
  clear h hn
  go_enter Tryz.func279, Tryz.ntmps279
  go_wp2
  go_loopw [5, 8] (fun _ i wr => ∃ j : Nat, j ≤ n ∧ i = .int .i64 j ∧ (∀ q, q < j → (X.getD q d0).1 ≠ id) ∧ wr = w) (fun _ i _ => n - (intOf i).toNat)
  case atStart => exact ⟨0, by omega, rfl, fun q hq => by omega, rfl⟩
  case round =>
    obtain ⟨j, hj, rfl, hz, rfl⟩ := hrel
    have HZ := Lib.hid hz
    clear hz
    by_cases hlt : j < n
    · obtain ⟨g, cap', cur, hv, hbk, _⟩ := HX.out.open_ (by rw [← HN.out]; omega)
      injection hv with h1 h2 h3
      subst h1
      have c0 := range1 (ColX.range (c := cId) (k := 1) (fun _ => rfl) HX.out (getD_at (i := j) (by rw [← HN.out]; omega)))
      have hg := hbk.lt
      have j0 : (0 : Int) ≤ (j : Int) := by omega
      have j1 : (j : Int) < (n : Int) := by omega
      clear hbk h2 h3
      obtain ⟨y, hy⟩ : ∃ y, y = (X.getD j d0).1 := ⟨_, rfl⟩
      rw [← hy] at c0
      have HY := Lib.hid hy
      clear hy
      by_cases he : id = y
      · have he' : (id == y) = true := by simpa using he
        have HE := Lib.hid he
        clear he
        go_wp2
        go_ret
        exact ⟨by rw [find_yes (by rw [← HN.out]; exact hlt) HZ.out (by rw [← HY.out, HE.out])]; rfl, rfl⟩
      · have he' : (id == y) = false := by simpa using he
        have HE := Lib.hid he
        clear he
        go_wp2
        go_roundw
        case rel => exact ⟨j + 1, by omega, by go_num, fun q hq => by
          rcases Nat.lt_succ_iff_lt_or_eq.1 hq with c | c
          · exact HZ.out q c
          · rw [c, ← HY.out]; exact fun c => HE.out c.symm, by trivial⟩
        case measure => simp [intOf] <;> omega
    · obtain rfl : j = n := by omega
      go_wp2
      go_ret
      exact ⟨by rw [find_no (by rw [← HN.out]; exact Nat.le_refl _) HZ.out]; rfl, rfl⟩
set_option maxHeartbeats 1000000 in
set_option maxRecDepth 100000 in
theorem find_any {g : Nat} {s : Int} {v : Nat → Value} {X : Nat → TR} {w : World} (h : Tab w g s v X) (hX : (X 0).length ≤ 1000) (id : Int) :
    Calls Tryz.prog 241 #[.pointer (some ⟨g, 0, none⟩), .int .i64 id] w fun e w' => e = .returned (.int .i64 (findI (X 0) id)) ∧ w = w' := by
  have c1 : w.cell? ⟨g, 1, none⟩ = some (v 0) := (h.cell (j := 0) (by omega)).1
  have hg := h.blk.lt
  have HO := Lib.hid (h.own 0 (by omega))
  obtain ⟨u, hu⟩ : ∃ u, u = v 0 := ⟨_, rfl⟩
  rw [← hu] at c1 HO
  clear hu h
  go_enter Tryz.func241, Tryz.ntmps241
  go_wp2_with fail
  refine (index_any u (X 0) id w HO.out hX).mono ?_
  rintro e w1 ⟨rfl, rfl⟩
  go_wp2
  go_ret
  exact ⟨rfl, rfl⟩

def cutTo (X : Nat → TR) (row m i : Nat) : TR := if i < m then cutL (X i) row else X i
theorem cutTo_at (X : Nat → TR) (row j : Nat) : cutTo X row j j = X j := by unfold cutTo; rw [if_neg (by omega)]
theorem Tab.ownCut {w : World} {g : Nat} {s : Int} {v : Nat → Value} {X : Nat → TR} {row j : Nat} (h : Tab w g s v (cutTo X row j)) (hj : j < 8) : Col w j (v j) (X j) := cutTo_at X row j ▸ h.own j hj
theorem Tab.mid {w w1 : World} {g : Nat} {s : Int} {v : Nat → Value} {X : Nat → TR} {j : Nat} (h : Tab w g s v X) (hj : j < 8) (hg : w.grownBy w1 (v j).ownBlock) : w1.cell? ⟨g, 1 + j, none⟩ = some (v j) ∧ w1.frozen? ⟨g, 1 + j, none⟩ = false ∧ g < w1.heap.size := by
  have hk : Blk w1 g 332 (tcells s v) := h.blk.same (hg.block g h.blk.lt (fun e => h.off j hj e.symm))
  exact ⟨by rw [hk.cell, tcells_at hj], hk.frozen _, hk.lt⟩
theorem Tab.cutStep {w w1 w0 : World} {g : Nat} {s : Int} {v v0 : Nat → Value} {X : Nat → TR} {row j : Nat} {u : Value} (h : Tab w g s v (cutTo X row j)) (hj : j < 8) (hg : w.grownBy w1 (v j).ownBlock) (hc : Col w1 j u (cutL (X j) row)) (hu : u.ownBlock = (v j).ownBlock) (st : Step w0 w g v0 v) :
    ∃ v', Tab (w1.setCell ⟨g, 1 + j, none⟩ u) g s v' (cutTo X row (j + 1)) ∧ Step w0 (w1.setCell ⟨g, 1 + j, none⟩ u) g v0 v' := by
  obtain ⟨h1, h2⟩ := h.assign hj hg hc (fun b hb => Or.inl (hu ▸ hb))
  refine ⟨_, h1.ext (fun i _ => ?_), st.trans h2⟩
  unfold upc cutTo
  by_cases e : i = j
  · subst e; rw [if_pos rfl, if_pos (by omega)]
  · rw [if_neg e]
    by_cases c : i < j
    · rw [if_pos c, if_pos (by omega)]
    · rw [if_neg c, if_neg (by omega)]

set_option maxHeartbeats 4000000 in
set_option maxRecDepth 100000 in
theorem shorten_any {g : Nat} {s : Int} {v : Nat → Value} {X : Nat → TR} {w : World} (h : Tab w g s v X) (hX : ∀ i, i < 8 → (X i).length ≤ 1000) (row : Nat) :
    Calls Tryz.prog 248 #[.pointer (some ⟨g, 1, none⟩), .int .i64 row] w fun e w' => e = .returned (.tuple #[]) ∧ ∃ v', Tab w' g s v' (fun i => cutL (X i) row) ∧ Step w w' g v v' := by
  have HX := Lib.hid hX
  have HT0 : Hid (Tab w g s v (cutTo X row 0) ∧ Step w w g v v) := Lib.hid ⟨h.ext (fun i _ => by unfold cutTo; rw [if_neg (by omega)]), Step.refl _ _ _⟩
  clear hX h
  have hg : g < w.heap.size := HT0.out.1.blk.lt
  have cc : w.cell? ⟨g, 1, none⟩ = some (v 0) := (HT0.out.1.cell (j := 0) (by omega)).1
  obtain ⟨v0, hv0⟩ : ∃ v0 : Nat → Value, v0 = v := ⟨_, rfl⟩
  have HT : Hid (Tab w g s v0 (cutTo X row 0) ∧ Step w w g v v0) := Lib.hid (by rw [hv0]; exact HT0.out)
  rw [← hv0] at cc
  obtain ⟨u, hu⟩ : ∃ u, u = v0 0 := ⟨_, rfl⟩
  have HU := Lib.hid hu
  rw [← hu] at cc
  clear hu hv0 HT0
  go_enter Tryz.func248, Tryz.ntmps248
  go_wp2_with fail
  refine (cut_id (fun x => x.1) u (X 0) row _ (HU.out ▸ HT.out.1.ownCut (j := 0) (by omega)) (HX.out 0 (by omega))).mono ?_
  rintro e w0' ⟨q, rfl, hc, hgr, hq⟩
  obtain ⟨qa, qcap, rfl, _, _⟩ := hc.form
  rw [HU.out] at hgr hq
  obtain ⟨cc', ff, hg'⟩ := HT.out.1.mid (j := 0) (by omega) hgr
  rw [← HU.out] at cc'
  have HN := Lib.hid (HT.out.1.cutStep (j := 0) (by omega) hgr hc hq HT.out.2)
  clear hc hgr hq cc hg HT HU
  replace cc' : w0'.cell? ⟨g, 1, none⟩ = some u := cc'
  replace ff : w0'.frozen? ⟨g, 1, none⟩ = false := ff
  go_upto_region 1 with fail
  refine fin (fun W => ∃ v', Tab W g s v' (cutTo X row 1) ∧ Step w W g v v') HN.out ?_
  rintro W1 ⟨v1, HT'⟩
  have HT := Lib.hid HT'
  clear HT' HN cc' ff hg'
  have hg : g < W1.heap.size := HT.out.1.blk.lt
  have cc : W1.cell? ⟨g, 2, none⟩ = some (v1 1) := (HT.out.1.cell (j := 1) (by omega)).1
  obtain ⟨u, hu⟩ : ∃ u, u = v1 1 := ⟨_, rfl⟩
  have HU := Lib.hid hu
  rw [← hu] at cc
  clear hu
  go_wp2_with fail
  refine (cut_mat (fun x => x.2.2.1) u (X 1) row _ (HU.out ▸ HT.out.1.ownCut (j := 1) (by omega)) (HX.out 1 (by omega))).mono ?_
  rintro e w1' ⟨q, rfl, hc, hgr, hq⟩
  obtain ⟨qa, qcap, rfl, _, _⟩ := hc.form
  rw [HU.out] at hgr hq
  obtain ⟨cc', ff, hg'⟩ := HT.out.1.mid (j := 1) (by omega) hgr
  rw [← HU.out] at cc'
  have HN := Lib.hid (HT.out.1.cutStep (j := 1) (by omega) hgr hc hq HT.out.2)
  clear hc hgr hq cc hg HT HU
  replace cc' : w1'.cell? ⟨g, 2, none⟩ = some u := cc'
  replace ff : w1'.frozen? ⟨g, 2, none⟩ = false := ff
  go_upto_region 2 with fail
  refine fin (fun W => ∃ v', Tab W g s v' (cutTo X row 2) ∧ Step w W g v v') HN.out ?_
  rintro W2 ⟨v2, HT'⟩
  have HT := Lib.hid HT'
  clear HT' HN cc' ff hg'
  have hg : g < W2.heap.size := HT.out.1.blk.lt
  have cc : W2.cell? ⟨g, 3, none⟩ = some (v2 2) := (HT.out.1.cell (j := 2) (by omega)).1
  obtain ⟨u, hu⟩ : ∃ u, u = v2 2 := ⟨_, rfl⟩
  have HU := Lib.hid hu
  rw [← hu] at cc
  clear hu
  go_wp2_with fail
  refine (cut_int (fun x => x.2.2.2.1) u (X 2) row _ (HU.out ▸ HT.out.1.ownCut (j := 2) (by omega)) (HX.out 2 (by omega))).mono ?_
  rintro e w2' ⟨q, rfl, hc, hgr, hq⟩
  obtain ⟨qa, qcap, rfl, _, _⟩ := hc.form
  rw [HU.out] at hgr hq
  obtain ⟨cc', ff, hg'⟩ := HT.out.1.mid (j := 2) (by omega) hgr
  rw [← HU.out] at cc'
  have HN := Lib.hid (HT.out.1.cutStep (j := 2) (by omega) hgr hc hq HT.out.2)
  clear hc hgr hq cc hg HT HU
  replace cc' : w2'.cell? ⟨g, 3, none⟩ = some u := cc'
  replace ff : w2'.frozen? ⟨g, 3, none⟩ = false := ff
  go_upto_region 3 with fail
  refine fin (fun W => ∃ v', Tab W g s v' (cutTo X row 3) ∧ Step w W g v v') HN.out ?_
  rintro W3 ⟨v3, HT'⟩
  have HT := Lib.hid HT'
  clear HT' HN cc' ff hg'
  have hg : g < W3.heap.size := HT.out.1.blk.lt
  have cc : W3.cell? ⟨g, 4, none⟩ = some (v3 3) := (HT.out.1.cell (j := 3) (by omega)).1
  obtain ⟨u, hu⟩ : ∃ u, u = v3 3 := ⟨_, rfl⟩
  have HU := Lib.hid hu
  rw [← hu] at cc
  clear hu
  go_wp2_with fail
  refine (cut_box (fun x => x.2.2.2.2.1) u (X 3) row _ (HU.out ▸ HT.out.1.ownCut (j := 3) (by omega)) (HX.out 3 (by omega))).mono ?_
  rintro e w3' ⟨q, rfl, hc, hgr, hq⟩
  obtain ⟨qa, qcap, rfl, _, _⟩ := hc.form
  rw [HU.out] at hgr hq
  obtain ⟨cc', ff, hg'⟩ := HT.out.1.mid (j := 3) (by omega) hgr
  rw [← HU.out] at cc'
  have HN := Lib.hid (HT.out.1.cutStep (j := 3) (by omega) hgr hc hq HT.out.2)
  clear hc hgr hq cc hg HT HU
  replace cc' : w3'.cell? ⟨g, 4, none⟩ = some u := cc'
  replace ff : w3'.frozen? ⟨g, 4, none⟩ = false := ff
  go_upto_region 4 with fail
  refine fin (fun W => ∃ v', Tab W g s v' (cutTo X row 4) ∧ Step w W g v v') HN.out ?_
  rintro W4 ⟨v4, HT'⟩
  have HT := Lib.hid HT'
  clear HT' HN cc' ff hg'
  have hg : g < W4.heap.size := HT.out.1.blk.lt
  have cc : W4.cell? ⟨g, 5, none⟩ = some (v4 4) := (HT.out.1.cell (j := 4) (by omega)).1
  obtain ⟨u, hu⟩ : ∃ u, u = v4 4 := ⟨_, rfl⟩
  have HU := Lib.hid hu
  rw [← hu] at cc
  clear hu
  go_wp2_with fail
  refine (cut_int (fun x => x.2.2.2.2.2.1) u (X 4) row _ (HU.out ▸ HT.out.1.ownCut (j := 4) (by omega)) (HX.out 4 (by omega))).mono ?_
  rintro e w4' ⟨q, rfl, hc, hgr, hq⟩
  obtain ⟨qa, qcap, rfl, _, _⟩ := hc.form
  rw [HU.out] at hgr hq
  obtain ⟨cc', ff, hg'⟩ := HT.out.1.mid (j := 4) (by omega) hgr
  rw [← HU.out] at cc'
  have HN := Lib.hid (HT.out.1.cutStep (j := 4) (by omega) hgr hc hq HT.out.2)
  clear hc hgr hq cc hg HT HU
  replace cc' : w4'.cell? ⟨g, 5, none⟩ = some u := cc'
  replace ff : w4'.frozen? ⟨g, 5, none⟩ = false := ff
  go_upto_region 5 with fail
  refine fin (fun W => ∃ v', Tab W g s v' (cutTo X row 5) ∧ Step w W g v v') HN.out ?_
  rintro W5 ⟨v5, HT'⟩
  have HT := Lib.hid HT'
  clear HT' HN cc' ff hg'
  have hg : g < W5.heap.size := HT.out.1.blk.lt
  have cc : W5.cell? ⟨g, 6, none⟩ = some (v5 5) := (HT.out.1.cell (j := 5) (by omega)).1
  obtain ⟨u, hu⟩ : ∃ u, u = v5 5 := ⟨_, rfl⟩
  have HU := Lib.hid hu
  rw [← hu] at cc
  clear hu
  go_wp2_with fail
  refine (cut_int (fun x => x.2.2.2.2.2.2.1) u (X 5) row _ (HU.out ▸ HT.out.1.ownCut (j := 5) (by omega)) (HX.out 5 (by omega))).mono ?_
  rintro e w5' ⟨q, rfl, hc, hgr, hq⟩
  obtain ⟨qa, qcap, rfl, _, _⟩ := hc.form
  rw [HU.out] at hgr hq
  obtain ⟨cc', ff, hg'⟩ := HT.out.1.mid (j := 5) (by omega) hgr
  rw [← HU.out] at cc'
  have HN := Lib.hid (HT.out.1.cutStep (j := 5) (by omega) hgr hc hq HT.out.2)
  clear hc hgr hq cc hg HT HU
  replace cc' : w5'.cell? ⟨g, 6, none⟩ = some u := cc'
  replace ff : w5'.frozen? ⟨g, 6, none⟩ = false := ff
  go_upto_region 6 with fail
  refine fin (fun W => ∃ v', Tab W g s v' (cutTo X row 6) ∧ Step w W g v v') HN.out ?_
  rintro W6 ⟨v6, HT'⟩
  have HT := Lib.hid HT'
  clear HT' HN cc' ff hg'
  have hg : g < W6.heap.size := HT.out.1.blk.lt
  have cc : W6.cell? ⟨g, 7, none⟩ = some (v6 6) := (HT.out.1.cell (j := 6) (by omega)).1
  obtain ⟨u, hu⟩ : ∃ u, u = v6 6 := ⟨_, rfl⟩
  have HU := Lib.hid hu
  rw [← hu] at cc
  clear hu
  go_wp2_with fail
  refine (cut_bool (fun x => x.2.2.2.2.2.2.2.1) u (X 6) row _ (HU.out ▸ HT.out.1.ownCut (j := 6) (by omega)) (HX.out 6 (by omega))).mono ?_
  rintro e w6' ⟨q, rfl, hc, hgr, hq⟩
  obtain ⟨qa, qcap, rfl, _, _⟩ := hc.form
  rw [HU.out] at hgr hq
  obtain ⟨cc', ff, hg'⟩ := HT.out.1.mid (j := 6) (by omega) hgr
  rw [← HU.out] at cc'
  have HN := Lib.hid (HT.out.1.cutStep (j := 6) (by omega) hgr hc hq HT.out.2)
  clear hc hgr hq cc hg HT HU
  replace cc' : w6'.cell? ⟨g, 7, none⟩ = some u := cc'
  replace ff : w6'.frozen? ⟨g, 7, none⟩ = false := ff
  go_upto_region 7 with fail
  refine fin (fun W => ∃ v', Tab W g s v' (cutTo X row 7) ∧ Step w W g v v') HN.out ?_
  rintro W7 ⟨v7, HT'⟩
  have HT := Lib.hid HT'
  clear HT' HN cc' ff hg'
  have hg : g < W7.heap.size := HT.out.1.blk.lt
  have cc : W7.cell? ⟨g, 8, none⟩ = some (v7 7) := (HT.out.1.cell (j := 7) (by omega)).1
  obtain ⟨u, hu⟩ : ∃ u, u = v7 7 := ⟨_, rfl⟩
  have HU := Lib.hid hu
  rw [← hu] at cc
  clear hu
  go_wp2_with fail
  refine (cut_int (fun x => x.2.2.2.2.2.2.2.2) u (X 7) row _ (HU.out ▸ HT.out.1.ownCut (j := 7) (by omega)) (HX.out 7 (by omega))).mono ?_
  rintro e w7' ⟨q, rfl, hc, hgr, hq⟩
  obtain ⟨qa, qcap, rfl, _, _⟩ := hc.form
  rw [HU.out] at hgr hq
  obtain ⟨cc', ff, hg'⟩ := HT.out.1.mid (j := 7) (by omega) hgr
  rw [← HU.out] at cc'
  have HN := Lib.hid (HT.out.1.cutStep (j := 7) (by omega) hgr hc hq HT.out.2)
  clear hc hgr hq cc hg HT HU
  replace cc' : w7'.cell? ⟨g, 8, none⟩ = some u := cc'
  replace ff : w7'.frozen? ⟨g, 8, none⟩ = false := ff
  go_wp2
  go_end0
  obtain ⟨v', h1, h2⟩ := HN.out
  exact ⟨rfl, v', h1.ext (fun i hi => by unfold cutTo; rw [if_pos hi]), h2⟩

def putTo (X : Nat → TR) (row : Nat) (y : Int × PT) (m i : Nat) : TR := if 1 ≤ i ∧ i < m then (X i).set row y else X i
theorem putTo_at (X : Nat → TR) (row : Nat) (y : Int × PT) (j : Nat) : putTo X row y j j = X j := by unfold putTo; rw [if_neg (by omega)]
theorem Tab.ownPut {w : World} {g : Nat} {s : Int} {v : Nat → Value} {X : Nat → TR} {row j : Nat} {y : Int × PT} (h : Tab w g s v (putTo X row y j)) (hj : j < 8) : Col w j (v j) (X j) := putTo_at X row y j ▸ h.own j hj
theorem Tab.drew {w : World} {g : Nat} {s : Int} {v : Nat → Value} {X : Nat → TR} (h : Tab w g s v X) : Tab w.drew g s v X := h.same (fun _ _ => rfl)
theorem Step.drew {a b : World} {g : Nat} {u v : Nat → Value} (h : Step a b g u v) : Step a b.drew g u v := ⟨h.fr, h.new⟩
theorem Tab.putStep {w w1 w0 : World} {g gp : Nat} {s : Int} {v : Nat → Value} {X : Nat → TR} {row j : Nat} {y : Int × PT} {t : TypeId} {C : Array Value} (h : Tab w g s v (putTo X row y j) ∧ Step w0 w g v v ∧ Blk w gp t C) (hp : ¬ foot g v gp) (h1 : 1 ≤ j) (hj : j < 8) (hg : w.grownBy w1 (v j).ownBlock) (hc : Col w1 j (v j) ((X j).set row y)) :
    Tab w1 g s v (putTo X row y (j + 1)) ∧ Step w0 w1 g v v ∧ Blk w1 gp t C := by
  obtain ⟨k1, k2⟩ := h.1.put hj hg hc
  refine ⟨k1.ext (fun i _ => ?_), h.2.1.trans k2, h.2.2.same (hg.block gp h.2.2.lt (fun e => hp (Or.inr ⟨j, hj, e.symm⟩)))⟩
  unfold upc putTo
  by_cases e : i = j
  · subst e; rw [if_pos rfl, if_pos (by omega)]
  · rw [if_neg e]
    by_cases c : 1 ≤ i ∧ i < j
    · rw [if_pos c, if_pos (by omega)]
    · rw [if_neg c, if_neg (by omega)]

set_option maxHeartbeats 8000000 in
set_option maxRecDepth 100000 in
theorem write_any {g : Nat} {s : Int} {v : Nat → Value} {X : Nat → TR} {w : World} (h0 : Tab w g s v X) (hX : ∀ i, i < 8 → (X i).length ≤ 1000) (row : Nat) (i0 : Int) (hh : Int) (M : Nat → Int) (m : Int) (B : Nat → Int) (p a : Int) (c : Bool) (l : Int) :
    Calls Tryz.prog 299 #[.pointer (some ⟨g, 1, none⟩), .int .i64 row, .agg (PL hh M m B p a c l).toArray] w fun e w' => e = .returned (.tuple #[]) ∧ Tab w' g s v (putTo X row (i0, hh, M, m, B, p, a, c, l) 8) ∧ Step w w' g v v := by
  obtain ⟨y, hy⟩ : ∃ y : Int × PT, y = (i0, hh, M, m, B, p, a, c, l) := ⟨_, rfl⟩
  rw [← hy]
  have HX := Lib.hid hX
  have HR1 : Hid (∀ u g, Blk u g 52 (PL hh M m B p a c l).toArray → u.rangeAt g 1 [.int .i64 (M 0), .int .i64 (M 1), .int .i64 (M 2), .int .i64 (M 3), .int .i64 (M 4), .int .i64 (M 5), .int .i64 (M 6), .int .i64 (M 7), .int .i64 (M 8), .int .i64 (M 9), .int .i64 (M 10), .int .i64 (M 11)]) := Lib.hid (fun u g k => blk_range k 1 12)
  have HR3 : Hid (∀ u g, Blk u g 52 (PL hh M m B p a c l).toArray → u.rangeAt g 14 [.int .i64 (B 0), .int .i64 (B 1), .int .i64 (B 2), .int .i64 (B 3), .int .i64 (B 4), .int .i64 (B 5)]) := Lib.hid (fun u g k => blk_range k 14 6)
  have HC : Hid (∀ u g, Blk u g 52 (PL hh M m B p a c l).toArray → u.cell? ⟨g, 13, none⟩ = some (.int .i64 m) ∧ u.cell? ⟨g, 20, none⟩ = some (.int .i64 p) ∧ u.cell? ⟨g, 21, none⟩ = some (.int .i64 a) ∧ u.cell? ⟨g, 22, none⟩ = some (.bool c) ∧ u.cell? ⟨g, 23, none⟩ = some (.int .i64 l)) := Lib.hid (fun u g k => ⟨k.cell 13, k.cell 20, k.cell 21, k.cell 22, k.cell 23⟩)
  have HS1 : Hid ((Tryz.prog.info? 46).map (·.size) = some ([.int .i64 (M 0), .int .i64 (M 1), .int .i64 (M 2), .int .i64 (M 3), .int .i64 (M 4), .int .i64 (M 5), .int .i64 (M 6), .int .i64 (M 7), .int .i64 (M 8), .int .i64 (M 9), .int .i64 (M 10), .int .i64 (M 11)] : List Value).length) := Lib.hid info_mat
  have HS3 : Hid ((Tryz.prog.info? 50).map (·.size) = some ([.int .i64 (B 0), .int .i64 (B 1), .int .i64 (B 2), .int .i64 (B 3), .int .i64 (B 4), .int .i64 (B 5)] : List Value).length) := Lib.hid info_box
  obtain ⟨Xp, hXp⟩ : ∃ Xp, Xp = PL hh M m B p a c l := ⟨_, rfl⟩
  rw [← hXp] at HR1 HR3 HC
  rw [← hXp]
  clear hXp
  have HY := Lib.hid hy
  have HP : Hid (¬ foot g v w.heap.size) := Lib.hid (fun c => by have := h0.inb _ c; omega)
  have H0 : Hid (Tab (w.alloc (.cells Xp.toArray 52)) g s v (putTo X row y 1) ∧ Step w (w.alloc (.cells Xp.toArray 52)) g v v ∧ Blk (w.alloc (.cells Xp.toArray 52)) w.heap.size 52 Xp.toArray) :=
    Lib.hid ⟨(h0.keep (alloc_below _ _)).ext (fun i _ => by unfold putTo; rw [if_neg (by omega)]), Step.below (alloc_below _ _), Blk.new _ _ _⟩
  clear h0 hX hy
  go_enter Tryz.func299, Tryz.ntmps299
  go_upto_region 1 with fail
  refine fin (fun W => Tab W g s v (putTo X row y 1) ∧ Step w W g v v ∧ Blk W w.heap.size 52 Xp.toArray) H0.out ?_
  rintro W1 HT'
  have HT := Lib.hid HT'
  clear HT' H0
  have SS : Hid (∀ u, (Tab u g s v (putTo X row y 1) ∧ Step w u g v v ∧ Blk u w.heap.size 52 Xp.toArray) → u.cell? ⟨g, 2, none⟩ = some (v 1) ∧ u.rangeAt w.heap.size 1 [.int .i64 (M 0), .int .i64 (M 1), .int .i64 (M 2), .int .i64 (M 3), .int .i64 (M 4), .int .i64 (M 5), .int .i64 (M 6), .int .i64 (M 7), .int .i64 (M 8), .int .i64 (M 9), .int .i64 (M 10), .int .i64 (M 11)]) := Lib.hid (fun u k => ⟨(k.1.cell (j := 1) (by omega)).1, HR1.out _ _ k.2.2⟩)
  have SN : Hid (∀ u, (Tab u g s v (putTo X row y 2) ∧ Step w u g v v ∧ Blk u w.heap.size 52 Xp.toArray) → u.cell? ⟨g, 2, none⟩ = some (v 1) ∧ u.rangeAt w.heap.size 1 [.int .i64 (M 0), .int .i64 (M 1), .int .i64 (M 2), .int .i64 (M 3), .int .i64 (M 4), .int .i64 (M 5), .int .i64 (M 6), .int .i64 (M 7), .int .i64 (M 8), .int .i64 (M 9), .int .i64 (M 10), .int .i64 (M 11)]) := Lib.hid (fun u k => ⟨(k.1.cell (j := 1) (by omega)).1, HR1.out _ _ k.2.2⟩)
  replace HT := Lib.hid (show Tab W1.drew g s v (putTo X row y 1) ∧ Step w W1.drew g v v ∧ Blk W1.drew w.heap.size 52 Xp.toArray from ⟨HT.out.1.drew, HT.out.2.1.drew, HT.out.2.2⟩)
  refine wp_region_held_drew (S := fun w' => w'.cell? ⟨g, 2, none⟩ = some (v 1) ∧ w'.rangeAt w.heap.size 1 [.int .i64 (M 0), .int .i64 (M 1), .int .i64 (M 2), .int .i64 (M 3), .int .i64 (M 4), .int .i64 (M 5), .int .i64 (M 6), .int .i64 (M 7), .int .i64 (M 8), .int .i64 (M 9), .int .i64 (M 10), .int .i64 (M 11)]) (by kernel_rfl) (SS.out _ HT.out) (fun hHeld => ?_)
  refine tk 0 hHeld ?_
  refine tk 1 hHeld ?_
  refine tk 2 hHeld ?_
  refine tk 3 hHeld ?_
  refine tk 4 hHeld ?_
  refine tk 5 hHeld ?_
  refine tkl 6 rfl (yieldsIf_load_mid (by rfl) _ _ rfl _ _ rfl _ _ (fun _ h => h.2) Tryz.underlying46 rfl HS1.out) hHeld ?_
  refine rd 7 (fun K hK => ?_)
  go_simp
  go_at_call 317
  refine (put_mat (fun x => x.2.2.1) (v 1) (X 1) row _ (HT.out.1.ownPut (j := 1) (by omega)) (HX.out 1 (by omega)) (i0, hh, M, m, B, p, a, c, l)).mono ?_
  rintro e w1' ⟨rfl, hc, hgr⟩
  rw [← HY.out] at hc
  have HN := Lib.hid (Tab.putStep HT.out HP.out (j := 1) (by omega) (by omega) hgr hc)
  clear hc hgr
  go_wp2_with fail
  refine hK.out _ _ (SN.out _ HN.out) (fun hHeld => ?_)
  clear hK K
  refine wpAnyH_done (by kernel_rfl) ?_ _
  refine fin (fun W => Tab W g s v (putTo X row y 2) ∧ Step w W g v v ∧ Blk W w.heap.size 52 Xp.toArray) HN.out ?_
  rintro W2 HT'
  replace HT := Lib.hid HT'
  clear HT' HN SS SN
  go_upto_region 2 with fail
  have SS : Hid (∀ u, (Tab u g s v (putTo X row y 2) ∧ Step w u g v v ∧ Blk u w.heap.size 52 Xp.toArray) → u.cell? ⟨g, 3, none⟩ = some (v 2) ∧ u.cell? ⟨w.heap.size, 13, none⟩ = some (.int .i64 m)) := Lib.hid (fun u k => ⟨(k.1.cell (j := 2) (by omega)).1, (HC.out _ _ k.2.2).1⟩)
  have SN : Hid (∀ u, (Tab u g s v (putTo X row y 3) ∧ Step w u g v v ∧ Blk u w.heap.size 52 Xp.toArray) → u.cell? ⟨g, 3, none⟩ = some (v 2) ∧ u.cell? ⟨w.heap.size, 13, none⟩ = some (.int .i64 m)) := Lib.hid (fun u k => ⟨(k.1.cell (j := 2) (by omega)).1, (HC.out _ _ k.2.2).1⟩)
  replace HT := Lib.hid (show Tab W2.drew g s v (putTo X row y 2) ∧ Step w W2.drew g v v ∧ Blk W2.drew w.heap.size 52 Xp.toArray from ⟨HT.out.1.drew, HT.out.2.1.drew, HT.out.2.2⟩)
  refine wp_region_held_drew (S := fun w' => w'.cell? ⟨g, 3, none⟩ = some (v 2) ∧ w'.cell? ⟨w.heap.size, 13, none⟩ = some (.int .i64 m)) (by kernel_rfl) (SS.out _ HT.out) (fun hHeld => ?_)
  refine tk 0 hHeld ?_
  refine tk 1 hHeld ?_
  refine tk 2 hHeld ?_
  refine tk 3 hHeld ?_
  refine tk 4 hHeld ?_
  refine tk 5 hHeld ?_
  refine tk 6 hHeld ?_
  refine rd 7 (fun K hK => ?_)
  go_simp
  go_at_call 318
  refine (put_int (fun x => x.2.2.2.1) (v 2) (X 2) row _ (HT.out.1.ownPut (j := 2) (by omega)) (HX.out 2 (by omega)) (i0, hh, M, m, B, p, a, c, l)).mono ?_
  rintro e w2' ⟨rfl, hc, hgr⟩
  rw [← HY.out] at hc
  have HN := Lib.hid (Tab.putStep HT.out HP.out (j := 2) (by omega) (by omega) hgr hc)
  clear hc hgr
  go_wp2_with fail
  refine hK.out _ _ (SN.out _ HN.out) (fun hHeld => ?_)
  clear hK K
  refine wpAnyH_done (by kernel_rfl) ?_ _
  refine fin (fun W => Tab W g s v (putTo X row y 3) ∧ Step w W g v v ∧ Blk W w.heap.size 52 Xp.toArray) HN.out ?_
  rintro W3 HT'
  replace HT := Lib.hid HT'
  clear HT' HN SS SN
  go_upto_region 3 with fail
  have SS : Hid (∀ u, (Tab u g s v (putTo X row y 3) ∧ Step w u g v v ∧ Blk u w.heap.size 52 Xp.toArray) → u.cell? ⟨g, 4, none⟩ = some (v 3) ∧ u.rangeAt w.heap.size 14 [.int .i64 (B 0), .int .i64 (B 1), .int .i64 (B 2), .int .i64 (B 3), .int .i64 (B 4), .int .i64 (B 5)]) := Lib.hid (fun u k => ⟨(k.1.cell (j := 3) (by omega)).1, HR3.out _ _ k.2.2⟩)
  have SN : Hid (∀ u, (Tab u g s v (putTo X row y 4) ∧ Step w u g v v ∧ Blk u w.heap.size 52 Xp.toArray) → u.cell? ⟨g, 4, none⟩ = some (v 3) ∧ u.rangeAt w.heap.size 14 [.int .i64 (B 0), .int .i64 (B 1), .int .i64 (B 2), .int .i64 (B 3), .int .i64 (B 4), .int .i64 (B 5)]) := Lib.hid (fun u k => ⟨(k.1.cell (j := 3) (by omega)).1, HR3.out _ _ k.2.2⟩)
  replace HT := Lib.hid (show Tab W3.drew g s v (putTo X row y 3) ∧ Step w W3.drew g v v ∧ Blk W3.drew w.heap.size 52 Xp.toArray from ⟨HT.out.1.drew, HT.out.2.1.drew, HT.out.2.2⟩)
  refine wp_region_held_drew (S := fun w' => w'.cell? ⟨g, 4, none⟩ = some (v 3) ∧ w'.rangeAt w.heap.size 14 [.int .i64 (B 0), .int .i64 (B 1), .int .i64 (B 2), .int .i64 (B 3), .int .i64 (B 4), .int .i64 (B 5)]) (by kernel_rfl) (SS.out _ HT.out) (fun hHeld => ?_)
  refine tk 0 hHeld ?_
  refine tk 1 hHeld ?_
  refine tk 2 hHeld ?_
  refine tk 3 hHeld ?_
  refine tk 4 hHeld ?_
  refine tk 5 hHeld ?_
  refine tkl 6 rfl (yieldsIf_load_mid (by rfl) _ _ rfl _ _ rfl _ _ (fun _ h => h.2) Tryz.underlying50 rfl HS3.out) hHeld ?_
  refine rd 7 (fun K hK => ?_)
  go_simp
  go_at_call 319
  refine (put_box (fun x => x.2.2.2.2.1) (v 3) (X 3) row _ (HT.out.1.ownPut (j := 3) (by omega)) (HX.out 3 (by omega)) (i0, hh, M, m, B, p, a, c, l)).mono ?_
  rintro e w3' ⟨rfl, hc, hgr⟩
  rw [← HY.out] at hc
  have HN := Lib.hid (Tab.putStep HT.out HP.out (j := 3) (by omega) (by omega) hgr hc)
  clear hc hgr
  go_wp2_with fail
  refine hK.out _ _ (SN.out _ HN.out) (fun hHeld => ?_)
  clear hK K
  refine wpAnyH_done (by kernel_rfl) ?_ _
  refine fin (fun W => Tab W g s v (putTo X row y 4) ∧ Step w W g v v ∧ Blk W w.heap.size 52 Xp.toArray) HN.out ?_
  rintro W4 HT'
  replace HT := Lib.hid HT'
  clear HT' HN SS SN
  go_upto_region 4 with fail
  have SS : Hid (∀ u, (Tab u g s v (putTo X row y 4) ∧ Step w u g v v ∧ Blk u w.heap.size 52 Xp.toArray) → u.cell? ⟨g, 5, none⟩ = some (v 4) ∧ u.cell? ⟨w.heap.size, 20, none⟩ = some (.int .i64 p)) := Lib.hid (fun u k => ⟨(k.1.cell (j := 4) (by omega)).1, (HC.out _ _ k.2.2).2.1⟩)
  have SN : Hid (∀ u, (Tab u g s v (putTo X row y 5) ∧ Step w u g v v ∧ Blk u w.heap.size 52 Xp.toArray) → u.cell? ⟨g, 5, none⟩ = some (v 4) ∧ u.cell? ⟨w.heap.size, 20, none⟩ = some (.int .i64 p)) := Lib.hid (fun u k => ⟨(k.1.cell (j := 4) (by omega)).1, (HC.out _ _ k.2.2).2.1⟩)
  replace HT := Lib.hid (show Tab W4.drew g s v (putTo X row y 4) ∧ Step w W4.drew g v v ∧ Blk W4.drew w.heap.size 52 Xp.toArray from ⟨HT.out.1.drew, HT.out.2.1.drew, HT.out.2.2⟩)
  refine wp_region_held_drew (S := fun w' => w'.cell? ⟨g, 5, none⟩ = some (v 4) ∧ w'.cell? ⟨w.heap.size, 20, none⟩ = some (.int .i64 p)) (by kernel_rfl) (SS.out _ HT.out) (fun hHeld => ?_)
  refine tk 0 hHeld ?_
  refine tk 1 hHeld ?_
  refine tk 2 hHeld ?_
  refine tk 3 hHeld ?_
  refine tk 4 hHeld ?_
  refine tk 5 hHeld ?_
  refine tk 6 hHeld ?_
  refine rd 7 (fun K hK => ?_)
  go_simp
  go_at_call 318
  refine (put_int (fun x => x.2.2.2.2.2.1) (v 4) (X 4) row _ (HT.out.1.ownPut (j := 4) (by omega)) (HX.out 4 (by omega)) (i0, hh, M, m, B, p, a, c, l)).mono ?_
  rintro e w4' ⟨rfl, hc, hgr⟩
  rw [← HY.out] at hc
  have HN := Lib.hid (Tab.putStep HT.out HP.out (j := 4) (by omega) (by omega) hgr hc)
  clear hc hgr
  go_wp2_with fail
  refine hK.out _ _ (SN.out _ HN.out) (fun hHeld => ?_)
  clear hK K
  refine wpAnyH_done (by kernel_rfl) ?_ _
  refine fin (fun W => Tab W g s v (putTo X row y 5) ∧ Step w W g v v ∧ Blk W w.heap.size 52 Xp.toArray) HN.out ?_
  rintro W5 HT'
  replace HT := Lib.hid HT'
  clear HT' HN SS SN
  go_upto_region 5 with fail
  have SS : Hid (∀ u, (Tab u g s v (putTo X row y 5) ∧ Step w u g v v ∧ Blk u w.heap.size 52 Xp.toArray) → u.cell? ⟨g, 6, none⟩ = some (v 5) ∧ u.cell? ⟨w.heap.size, 21, none⟩ = some (.int .i64 a)) := Lib.hid (fun u k => ⟨(k.1.cell (j := 5) (by omega)).1, (HC.out _ _ k.2.2).2.2.1⟩)
  have SN : Hid (∀ u, (Tab u g s v (putTo X row y 6) ∧ Step w u g v v ∧ Blk u w.heap.size 52 Xp.toArray) → u.cell? ⟨g, 6, none⟩ = some (v 5) ∧ u.cell? ⟨w.heap.size, 21, none⟩ = some (.int .i64 a)) := Lib.hid (fun u k => ⟨(k.1.cell (j := 5) (by omega)).1, (HC.out _ _ k.2.2).2.2.1⟩)
  replace HT := Lib.hid (show Tab W5.drew g s v (putTo X row y 5) ∧ Step w W5.drew g v v ∧ Blk W5.drew w.heap.size 52 Xp.toArray from ⟨HT.out.1.drew, HT.out.2.1.drew, HT.out.2.2⟩)
  refine wp_region_held_drew (S := fun w' => w'.cell? ⟨g, 6, none⟩ = some (v 5) ∧ w'.cell? ⟨w.heap.size, 21, none⟩ = some (.int .i64 a)) (by kernel_rfl) (SS.out _ HT.out) (fun hHeld => ?_)
  refine tk 0 hHeld ?_
  refine tk 1 hHeld ?_
  refine tk 2 hHeld ?_
  refine tk 3 hHeld ?_
  refine tk 4 hHeld ?_
  refine tk 5 hHeld ?_
  refine tk 6 hHeld ?_
  refine rd 7 (fun K hK => ?_)
  go_simp
  go_at_call 318
  refine (put_int (fun x => x.2.2.2.2.2.2.1) (v 5) (X 5) row _ (HT.out.1.ownPut (j := 5) (by omega)) (HX.out 5 (by omega)) (i0, hh, M, m, B, p, a, c, l)).mono ?_
  rintro e w5' ⟨rfl, hc, hgr⟩
  rw [← HY.out] at hc
  have HN := Lib.hid (Tab.putStep HT.out HP.out (j := 5) (by omega) (by omega) hgr hc)
  clear hc hgr
  go_wp2_with fail
  refine hK.out _ _ (SN.out _ HN.out) (fun hHeld => ?_)
  clear hK K
  refine wpAnyH_done (by kernel_rfl) ?_ _
  refine fin (fun W => Tab W g s v (putTo X row y 6) ∧ Step w W g v v ∧ Blk W w.heap.size 52 Xp.toArray) HN.out ?_
  rintro W6 HT'
  replace HT := Lib.hid HT'
  clear HT' HN SS SN
  go_upto_region 6 with fail
  have SS : Hid (∀ u, (Tab u g s v (putTo X row y 6) ∧ Step w u g v v ∧ Blk u w.heap.size 52 Xp.toArray) → u.cell? ⟨g, 7, none⟩ = some (v 6) ∧ u.cell? ⟨w.heap.size, 22, none⟩ = some (.bool c)) := Lib.hid (fun u k => ⟨(k.1.cell (j := 6) (by omega)).1, (HC.out _ _ k.2.2).2.2.2.1⟩)
  have SN : Hid (∀ u, (Tab u g s v (putTo X row y 7) ∧ Step w u g v v ∧ Blk u w.heap.size 52 Xp.toArray) → u.cell? ⟨g, 7, none⟩ = some (v 6) ∧ u.cell? ⟨w.heap.size, 22, none⟩ = some (.bool c)) := Lib.hid (fun u k => ⟨(k.1.cell (j := 6) (by omega)).1, (HC.out _ _ k.2.2).2.2.2.1⟩)
  replace HT := Lib.hid (show Tab W6.drew g s v (putTo X row y 6) ∧ Step w W6.drew g v v ∧ Blk W6.drew w.heap.size 52 Xp.toArray from ⟨HT.out.1.drew, HT.out.2.1.drew, HT.out.2.2⟩)
  refine wp_region_held_drew (S := fun w' => w'.cell? ⟨g, 7, none⟩ = some (v 6) ∧ w'.cell? ⟨w.heap.size, 22, none⟩ = some (.bool c)) (by kernel_rfl) (SS.out _ HT.out) (fun hHeld => ?_)
  refine tk 0 hHeld ?_
  refine tk 1 hHeld ?_
  refine tk 2 hHeld ?_
  refine tk 3 hHeld ?_
  refine tk 4 hHeld ?_
  refine tk 5 hHeld ?_
  refine tk 6 hHeld ?_
  refine rd 7 (fun K hK => ?_)
  go_simp
  go_at_call 320
  refine (put_bool (fun x => x.2.2.2.2.2.2.2.1) (v 6) (X 6) row _ (HT.out.1.ownPut (j := 6) (by omega)) (HX.out 6 (by omega)) (i0, hh, M, m, B, p, a, c, l)).mono ?_
  rintro e w6' ⟨rfl, hc, hgr⟩
  rw [← HY.out] at hc
  have HN := Lib.hid (Tab.putStep HT.out HP.out (j := 6) (by omega) (by omega) hgr hc)
  clear hc hgr
  go_wp2_with fail
  refine hK.out _ _ (SN.out _ HN.out) (fun hHeld => ?_)
  clear hK K
  refine wpAnyH_done (by kernel_rfl) ?_ _
  refine fin (fun W => Tab W g s v (putTo X row y 7) ∧ Step w W g v v ∧ Blk W w.heap.size 52 Xp.toArray) HN.out ?_
  rintro W7 HT'
  replace HT := Lib.hid HT'
  clear HT' HN SS SN
  go_upto_region 7 with fail
  have SS : Hid (∀ u, (Tab u g s v (putTo X row y 7) ∧ Step w u g v v ∧ Blk u w.heap.size 52 Xp.toArray) → u.cell? ⟨g, 8, none⟩ = some (v 7) ∧ u.cell? ⟨w.heap.size, 23, none⟩ = some (.int .i64 l)) := Lib.hid (fun u k => ⟨(k.1.cell (j := 7) (by omega)).1, (HC.out _ _ k.2.2).2.2.2.2⟩)
  have SN : Hid (∀ u, (Tab u g s v (putTo X row y 8) ∧ Step w u g v v ∧ Blk u w.heap.size 52 Xp.toArray) → u.cell? ⟨g, 8, none⟩ = some (v 7) ∧ u.cell? ⟨w.heap.size, 23, none⟩ = some (.int .i64 l)) := Lib.hid (fun u k => ⟨(k.1.cell (j := 7) (by omega)).1, (HC.out _ _ k.2.2).2.2.2.2⟩)
  replace HT := Lib.hid (show Tab W7.drew g s v (putTo X row y 7) ∧ Step w W7.drew g v v ∧ Blk W7.drew w.heap.size 52 Xp.toArray from ⟨HT.out.1.drew, HT.out.2.1.drew, HT.out.2.2⟩)
  refine wp_region_held_drew (S := fun w' => w'.cell? ⟨g, 8, none⟩ = some (v 7) ∧ w'.cell? ⟨w.heap.size, 23, none⟩ = some (.int .i64 l)) (by kernel_rfl) (SS.out _ HT.out) (fun hHeld => ?_)
  refine tk 0 hHeld ?_
  refine tk 1 hHeld ?_
  refine tk 2 hHeld ?_
  refine tk 3 hHeld ?_
  refine tk 4 hHeld ?_
  refine tk 5 hHeld ?_
  refine tk 6 hHeld ?_
  refine rd 7 (fun K hK => ?_)
  go_simp
  go_at_call 318
  refine (put_int (fun x => x.2.2.2.2.2.2.2.2) (v 7) (X 7) row _ (HT.out.1.ownPut (j := 7) (by omega)) (HX.out 7 (by omega)) (i0, hh, M, m, B, p, a, c, l)).mono ?_
  rintro e w7' ⟨rfl, hc, hgr⟩
  rw [← HY.out] at hc
  have HN := Lib.hid (Tab.putStep HT.out HP.out (j := 7) (by omega) (by omega) hgr hc)
  clear hc hgr
  go_wp2_with fail
  refine hK.out _ _ (SN.out _ HN.out) (fun hHeld => ?_)
  clear hK K
  refine wpAnyH_done (by kernel_rfl) ?_ _
  refine fin (fun W => Tab W g s v (putTo X row y 8) ∧ Step w W g v v ∧ Blk W w.heap.size 52 Xp.toArray) HN.out ?_
  rintro W8 HT'
  replace HT := Lib.hid HT'
  clear HT' HN SS SN
  go_wp2
  go_end0
  exact ⟨rfl, HT.out.1, HT.out.2.1⟩

theorem bdrw {B : Nat} {a b : World} (h : Below B a b) : Below B a b.drew := ⟨h.os, h.tape, h.output, h.size, h.block⟩
set_option maxHeartbeats 4000000 in
set_option maxRecDepth 100000 in
theorem fits_any {g : Nat} {s : Int} {v : Nat → Value} {X : Nat → TR} {w : World} (h0 : Tab w g s v X) (P : PT) {b : Bool} (hb : fitsB s P = b) :
    Calls Tryz.prog 240 #[.pointer (some ⟨g, 0, none⟩), .agg (pl P).toArray] w fun e w' => e = .returned (.bool b) ∧ Below w.heap.size w w' := by
  subst hb
  unfold fitsB
  obtain ⟨r, hr⟩ : ∃ r, rightT P = r := ⟨_, rfl⟩
  have HRt := Lib.hid hr
  rw [hr]
  have hg := h0.blk.lt
  have cg : w.cell? ⟨g, 0, none⟩ = some (.int .i64 s) := h0.set0
  have HSz := Lib.hid (pl_size P)
  have HC : Hid (∀ u g, Blk u g 52 (pl P).toArray → u.cell? ⟨g, 0, none⟩ = some (.int .i64 P.1)) := Lib.hid (fun u g k => k.cell 0)
  have HRc : Hid (∀ w, Calls Tryz.prog 110 #[.agg (pl P).toArray] w fun e w' => e = .returned (.bool r) ∧ Below w.heap.size w w') := Lib.hid (fun w => prightT hr w)
  obtain ⟨Xp, hXp⟩ : ∃ Xp, Xp = pl P := ⟨_, rfl⟩
  rw [← hXp] at HSz HC HRc
  rw [← hXp]
  obtain ⟨hh, hhh⟩ : ∃ hh, hh = P.1 := ⟨_, rfl⟩
  rw [← hhh] at HC ⊢
  clear hXp hr hhh h0 HRt
  have KP := Lib.hid (Blk.new w 52 Xp.toArray)
  have CG : Hid (∀ u, Below w.heap.size w u → u.cell? ⟨g, 0, none⟩ = some (.int .i64 s)) := Lib.hid (fun u k => cell_keep cg k)
  have HB : Hid (Below w.heap.size w (w.alloc (.cells Xp.toArray 52))) := Lib.hid (alloc_below _ _)
  clear cg
  go_enter Tryz.func240, Tryz.ntmps240
  go_upto_region 1 with fail
  refine fin (fun W => Blk W w.heap.size 52 Xp.toArray ∧ Below w.heap.size w W) ⟨KP.out, HB.out⟩ ?_
  rintro W ⟨kp, hb⟩
  replace KP := Lib.hid (Blk.drew kp)
  replace HB := Lib.hid (bdrw hb)
  clear kp hb
  refine wp_region_held_drew (S := fun w' => w'.cell? ⟨w.heap.size, 0, none⟩ = some (.int .i64 hh) ∧ w'.cell? ⟨g, 0, none⟩ = some (.int .i64 s) ∧ w'.rangeAt w.heap.size 0 Xp) (by kernel_rfl) (⟨HC.out _ _ KP.out, CG.out _ HB.out, blk_whole KP.out⟩) (fun hHeld => ?_)
  refine tk 0 hHeld ?_
  refine tk 1 hHeld ?_
  refine tk 2 hHeld ?_
  refine tkl 3 rfl (yieldsIf_load_mid (by rfl) _ _ rfl _ _ rfl _ _ (fun _ h => h.2.2) Tryz.underlying52 rfl HSz.out) hHeld ?_
  refine rd 4 (fun K hK => ?_)
  go_simp
  go_at_call 110
  refine (HRc.out _).mono ?_
  rintro e w1 ⟨rfl, b1⟩
  go_wp2_with fail
  refine hK.out _ _ (⟨HC.out _ _ (Blk.keep KP.out b1), CG.out _ (bthen HB.out b1), blk_whole (Blk.keep KP.out b1)⟩) (fun hHeld => ?_)
  clear hK K
  replace HB := Lib.hid (bthen HB.out b1)
  clear b1
  refine tk 5 hHeld ?_
  refine tk 6 hHeld ?_
  cases r with
  | true =>
    refine tk 7 hHeld ?_
    refine tk 8 hHeld ?_
    refine tk 9 hHeld ?_
    refine tk 10 hHeld ?_
    refine tk 11 hHeld ?_
    refine tk 12 hHeld ?_
    refine tk 13 hHeld ?_
    refine tk 14 hHeld ?_
    refine tk 15 hHeld ?_
    refine wpAnyH_done (by kernel_rfl) ?_ _
    clear hHeld
    go_wp2
    go_ret
    exact ⟨by simp, HB.out⟩
  | false =>
    refine tks 7 hHeld ?_
    refine tks 8 hHeld ?_
    refine tks 9 hHeld ?_
    refine tks 10 hHeld ?_
    refine tks 11 hHeld ?_
    refine tks 12 hHeld ?_
    refine tks 13 hHeld ?_
    refine tk 14 hHeld ?_
    refine tk 15 hHeld ?_
    refine wpAnyH_done (by kernel_rfl) ?_ _
    clear hHeld
    go_wp2
    go_ret
    exact ⟨rfl, HB.out⟩

theorem right_zero7 {s : Int} (h : 0 ≤ s ∧ s ≤ 31) : rightT (s, zI, 0, zI, 0, 0, false, 0) = true := by
  have e0 : okM zI = true := by decide
  have e1 : okBox zI = true := by decide
  have e2 : eq12 zI zI = true := eq12_self zI
  have e3 : eq6 zI zI = true := eq6_self zI
  have i1 : inB 0 255 = true := by decide
  have i2 : inB 0 63 = true := by decide
  unfold rightT rightP kindsB kindB zkB restB
  simp [h.1, h.2, e0, e1, e2, e3, i1, i2]
theorem build_new (s : Int) (W : World) : (Instr.build 52 #[(0, .int .i64 s)]).run Tryz.prog W = .ok (.agg (pl (s, zI, 0, zI, 0, 0, false, 0)).toArray) W := by kernel_rfl
theorem wpList_bld1 {ops : Array Oper} {rest : List Oper} {op : Oper} {a : Act} {w : World} {Q : Exit → Act → World → Prop} (hgd : op.guard = none) (t : TypeId) (x : Operand) (ho : op.op = .build t #[(0, x)]) (vx vr : Value) (hx : a.eval x = vx)
    (hrun : ∀ W, (Instr.build t #[(0, vx)]).run Tryz.prog W = .ok vr W)
    (h : wpList Tryz.prog ops Q rest (a.put op.dst vr) w) : wpList Tryz.prog ops Q (op :: rest) a w :=
  wpList_plain hgd fun K hK => by
    have h2 := hK _ _ h
    unfold Oper.wp execOp
    simp only [ho]
    simp [hx, hrun]
    exact h2
theorem tab_new {w : World} {g : Nat} {s : Int} (h : Blk w g 332 #[.int .i64 s, .slice none 0 0, .slice none 0 0, .slice none 0 0, .slice none 0 0, .slice none 0 0, .slice none 0 0, .slice none 0 0, .slice none 0 0]) : Tab w g s (fun _ => .slice none 0 0) (Rs s []) :=
  ⟨h, fun i _ => (by rw [show Rs s [] i = [] by unfold Rs; split <;> rfl]; exact ColX.nil _ _ _ _), fun i _ j _ _ b hb => (by cases hb), fun i _ hb => (by cases hb)⟩
set_option maxHeartbeats 2000000 in
set_option maxRecDepth 100000 in
theorem new_any (w : World) (s : Int) (hs : 0 ≤ s ∧ s ≤ 31) :
    Calls Tryz.prog 239 #[.int .i64 s] w fun e w' => ∃ g L, e = .returned (.tuple #[.pointer (some ⟨g, 0, none⟩), .int .i64 0]) ∧ TBl w' g L s [] ∧ (∀ b, L b → w.heap.size ≤ b) ∧ Below w.heap.size w w' := by
  have HRc : Hid (∀ w, Calls Tryz.prog 110 #[.agg (pl (s, zI, 0, zI, 0, 0, false, 0)).toArray] w fun e w' => e = .returned (.bool true) ∧ Below w.heap.size w w') := Lib.hid (fun w => prightT (right_zero7 hs) w)
  have HBd := Lib.hid (build_new s)
  have HS := Lib.hid hs
  obtain ⟨Xp, hXp⟩ : ∃ Xp, Xp = pl (s, zI, 0, zI, 0, 0, false, 0) := ⟨_, rfl⟩
  rw [← hXp] at HRc HBd
  clear hXp hs
  go_enter Tryz.func239, Tryz.ntmps239
  go_wp2_with (refine wpList_bld1 rfl 52 (.tmp 4) rfl (.int .i64 s) (.agg Xp.toArray) rfl HBd.out ?_)
  refine (HRc.out _).mono ?_
  rintro e w1 ⟨rfl, b1⟩
  have HB := Lib.hid b1
  clear b1
  go_wp2
  go_ret2
  refine ⟨w1.heap.size, foot w1.heap.size (fun _ => .slice none 0 0), rfl, ⟨_, tab_new (Blk.new _ _ _), fun _ => Iff.rfl, HS.out, fun x hx => by cases hx⟩, ?_, bthen HB.out (alloc_below _ _)⟩
  rintro b (rfl | ⟨i, _, hb⟩)
  · exact HB.out.size
  · cases hb

end Go.Proofs.YthhfcedhbfandaaGreat
