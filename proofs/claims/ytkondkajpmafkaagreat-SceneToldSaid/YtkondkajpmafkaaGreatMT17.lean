/-
  What the landed table's write, fits and New answer.
-/
import Derived.Test.YtkondkajpmafkaaGreatMT16
namespace Go.Proofs.YtkondkajpmafkaaGreat
open Go.RowKit

/-- the columns from 1 on, up to m, put -/
def putTo (X : Nat → TR) (row : Nat) (y : Int × PT) (m i : Nat) : TR := if 1 ≤ i ∧ i < m then (X i).set row y else X i
theorem putTo_at (X : Nat → TR) (row : Nat) (y : Int × PT) (j : Nat) : putTo X row y j j = X j := by unfold putTo; rw [if_neg (by omega)]
theorem Tab.ownPut {w : World} {g : Nat} {s : Int} {v : Nat → Value} {X : Nat → TR} {row j : Nat} {y : Int × PT} (h : Tab w g s v (putTo X row y j)) (hj : j < 8) : Col w j (v j) (X j) := putTo_at X row y j ▸ h.own j hj
theorem Tab.drew {w : World} {g : Nat} {s : Int} {v : Nat → Value} {X : Nat → TR} (h : Tab w g s v X) : Tab w.drew g s v X := h.same (fun _ _ => rfl)
theorem Step.drew {a b : World} {g : Nat} {u v : Nat → Value} (h : Step a b g u v) : Step a b.drew g u v := ⟨h.fr, h.new⟩
theorem Tab.putStep {w w1 w0 : World} {g gp : Nat} {s : Int} {v : Nat → Value} {X : Nat → TR} {row j : Nat} {y : Int × PT} {t : TypeId} {C : Array Value} (h : Tab w g s v (putTo X row y j) ∧ Step w0 w g v v ∧ Blk w gp t C) (hp : ¬ foot g v gp) (h1 : 1 ≤ j) (hj : j < 8) (hg : w.grownBy w1 (v j).ownBlock) (hc : Col w1 j (v j) ((X j).set row y)) :
    Tab w1 g s v (putTo X row y (j + 1)) ∧ Step w0 w1 g v v ∧ Blk w1 gp t C := by
  obtain ⟨k1, k2⟩ := h.1.put hj hg hc
  refine ⟨k1.ext (fun i _ => ?_), h.2.1.trans k2, h.2.2.same (hg.block gp h.2.2.lt (fun e => hp (Or.inr ⟨j, hj, e.symm⟩)))⟩
  unfold upc putTo
  by_cases e : i = j
  · subst e; rw [if_pos rfl, if_pos (by omega)]
  · rw [if_neg e]
    by_cases c : 1 ≤ i ∧ i < j
    · rw [if_pos c, if_pos (by omega)]
    · rw [if_neg c, if_neg (by omega)]

set_option maxHeartbeats 8000000 in
set_option maxRecDepth 100000 in
theorem write_any {g : Nat} {s : Int} {v : Nat → Value} {X : Nat → TR} {w : World} (h0 : Tab w g s v X) (hX : ∀ i, i < 8 → (X i).length ≤ 1000) (row : Nat) (i0 : Int) (hh : Int) (M : Nat → Int) (m : Int) (B : Nat → Int) (p a : Int) (c : Bool) (l : Int) :
    Calls Tryz.prog 189 #[.pointer (some ⟨g, 1, none⟩), .int .i64 row, .agg (PL hh M m B p a c l).toArray] w fun e w' => e = .returned (.tuple #[]) ∧ Tab w' g s v (putTo X row (i0, hh, M, m, B, p, a, c, l) 8) ∧ Step w w' g v v := by
  obtain ⟨y, hy⟩ : ∃ y : Int × PT, y = (i0, hh, M, m, B, p, a, c, l) := ⟨_, rfl⟩
  rw [← hy]
  have HX := Lib.hid hX
  have HR1 : Hid (∀ u g, Blk u g 43 (PL hh M m B p a c l).toArray → u.rangeAt g 1 [.int .i64 (M 0), .int .i64 (M 1), .int .i64 (M 2), .int .i64 (M 3), .int .i64 (M 4), .int .i64 (M 5), .int .i64 (M 6), .int .i64 (M 7), .int .i64 (M 8), .int .i64 (M 9), .int .i64 (M 10), .int .i64 (M 11)]) := Lib.hid (fun u g k => blk_range k 1 12)
  have HR3 : Hid (∀ u g, Blk u g 43 (PL hh M m B p a c l).toArray → u.rangeAt g 14 [.int .i64 (B 0), .int .i64 (B 1), .int .i64 (B 2), .int .i64 (B 3), .int .i64 (B 4), .int .i64 (B 5)]) := Lib.hid (fun u g k => blk_range k 14 6)
  have HC : Hid (∀ u g, Blk u g 43 (PL hh M m B p a c l).toArray → u.cell? ⟨g, 13, none⟩ = some (.int .i64 m) ∧ u.cell? ⟨g, 20, none⟩ = some (.int .i64 p) ∧ u.cell? ⟨g, 21, none⟩ = some (.int .i64 a) ∧ u.cell? ⟨g, 22, none⟩ = some (.bool c) ∧ u.cell? ⟨g, 23, none⟩ = some (.int .i64 l)) := Lib.hid (fun u g k => ⟨k.cell 13, k.cell 20, k.cell 21, k.cell 22, k.cell 23⟩)
  have HS1 : Hid ((Tryz.prog.info? 37).map (·.size) = some ([.int .i64 (M 0), .int .i64 (M 1), .int .i64 (M 2), .int .i64 (M 3), .int .i64 (M 4), .int .i64 (M 5), .int .i64 (M 6), .int .i64 (M 7), .int .i64 (M 8), .int .i64 (M 9), .int .i64 (M 10), .int .i64 (M 11)] : List Value).length) := Lib.hid info_mat
  have HS3 : Hid ((Tryz.prog.info? 41).map (·.size) = some ([.int .i64 (B 0), .int .i64 (B 1), .int .i64 (B 2), .int .i64 (B 3), .int .i64 (B 4), .int .i64 (B 5)] : List Value).length) := Lib.hid info_box
  obtain ⟨Xp, hXp⟩ : ∃ Xp, Xp = PL hh M m B p a c l := ⟨_, rfl⟩
  rw [← hXp] at HR1 HR3 HC
  rw [← hXp]
  clear hXp
  have HY := Lib.hid hy
  have HP : Hid (¬ foot g v w.heap.size) := Lib.hid (fun c => by have := h0.inb _ c; omega)
  have H0 : Hid (Tab (w.alloc (.cells Xp.toArray 43)) g s v (putTo X row y 1) ∧ Step w (w.alloc (.cells Xp.toArray 43)) g v v ∧ Blk (w.alloc (.cells Xp.toArray 43)) w.heap.size 43 Xp.toArray) :=
    Lib.hid ⟨(h0.keep (alloc_below _ _)).ext (fun i _ => by unfold putTo; rw [if_neg (by omega)]), Step.below (alloc_below _ _), Blk.new _ _ _⟩
  clear h0 hX hy
  go_enter Tryz.func189, Tryz.ntmps189
  go_upto_region 1 with fail
  refine fin (fun W => Tab W g s v (putTo X row y 1) ∧ Step w W g v v ∧ Blk W w.heap.size 43 Xp.toArray) H0.out ?_
  rintro W1 HT'
  have HT := Lib.hid HT'
  clear HT' H0
  have SS : Hid (∀ u, (Tab u g s v (putTo X row y 1) ∧ Step w u g v v ∧ Blk u w.heap.size 43 Xp.toArray) → u.cell? ⟨g, 2, none⟩ = some (v 1) ∧ u.rangeAt w.heap.size 1 [.int .i64 (M 0), .int .i64 (M 1), .int .i64 (M 2), .int .i64 (M 3), .int .i64 (M 4), .int .i64 (M 5), .int .i64 (M 6), .int .i64 (M 7), .int .i64 (M 8), .int .i64 (M 9), .int .i64 (M 10), .int .i64 (M 11)]) := Lib.hid (fun u k => ⟨(k.1.cell (j := 1) (by omega)).1, HR1.out _ _ k.2.2⟩)
  have SN : Hid (∀ u, (Tab u g s v (putTo X row y 2) ∧ Step w u g v v ∧ Blk u w.heap.size 43 Xp.toArray) → u.cell? ⟨g, 2, none⟩ = some (v 1) ∧ u.rangeAt w.heap.size 1 [.int .i64 (M 0), .int .i64 (M 1), .int .i64 (M 2), .int .i64 (M 3), .int .i64 (M 4), .int .i64 (M 5), .int .i64 (M 6), .int .i64 (M 7), .int .i64 (M 8), .int .i64 (M 9), .int .i64 (M 10), .int .i64 (M 11)]) := Lib.hid (fun u k => ⟨(k.1.cell (j := 1) (by omega)).1, HR1.out _ _ k.2.2⟩)
  replace HT := Lib.hid (show Tab W1.drew g s v (putTo X row y 1) ∧ Step w W1.drew g v v ∧ Blk W1.drew w.heap.size 43 Xp.toArray from ⟨HT.out.1.drew, HT.out.2.1.drew, HT.out.2.2⟩)
  refine wp_region_held_drew (S := fun w' => w'.cell? ⟨g, 2, none⟩ = some (v 1) ∧ w'.rangeAt w.heap.size 1 [.int .i64 (M 0), .int .i64 (M 1), .int .i64 (M 2), .int .i64 (M 3), .int .i64 (M 4), .int .i64 (M 5), .int .i64 (M 6), .int .i64 (M 7), .int .i64 (M 8), .int .i64 (M 9), .int .i64 (M 10), .int .i64 (M 11)]) (by kernel_rfl) (SS.out _ HT.out) (fun hHeld => ?_)
  refine tk 0 hHeld ?_
  refine tk 1 hHeld ?_
  refine tk 2 hHeld ?_
  refine tk 3 hHeld ?_
  refine tk 4 hHeld ?_
  refine tk 5 hHeld ?_
  refine tkl 6 rfl (yieldsIf_load_mid (by rfl) _ _ rfl _ _ rfl _ _ (fun _ h => h.2) Tryz.underlying37 rfl HS1.out) hHeld ?_
  refine rd 7 (fun K hK => ?_)
  go_simp
  go_at_call 201
  refine (put_mat (fun x => x.2.2.1) (v 1) (X 1) row _ (HT.out.1.ownPut (j := 1) (by omega)) (HX.out 1 (by omega)) (i0, hh, M, m, B, p, a, c, l)).mono ?_
  rintro e w1' ⟨rfl, hc, hgr⟩
  rw [← HY.out] at hc
  have HN := Lib.hid (Tab.putStep HT.out HP.out (j := 1) (by omega) (by omega) hgr hc)
  clear hc hgr
  go_wp2_with fail
  refine hK.out _ _ (SN.out _ HN.out) (fun hHeld => ?_)
  clear hK K
  refine wpAnyH_done (by kernel_rfl) ?_ _
  refine fin (fun W => Tab W g s v (putTo X row y 2) ∧ Step w W g v v ∧ Blk W w.heap.size 43 Xp.toArray) HN.out ?_
  rintro W2 HT'
  replace HT := Lib.hid HT'
  clear HT' HN SS SN
  go_upto_region 2 with fail
  have SS : Hid (∀ u, (Tab u g s v (putTo X row y 2) ∧ Step w u g v v ∧ Blk u w.heap.size 43 Xp.toArray) → u.cell? ⟨g, 3, none⟩ = some (v 2) ∧ u.cell? ⟨w.heap.size, 13, none⟩ = some (.int .i64 m)) := Lib.hid (fun u k => ⟨(k.1.cell (j := 2) (by omega)).1, (HC.out _ _ k.2.2).1⟩)
  have SN : Hid (∀ u, (Tab u g s v (putTo X row y 3) ∧ Step w u g v v ∧ Blk u w.heap.size 43 Xp.toArray) → u.cell? ⟨g, 3, none⟩ = some (v 2) ∧ u.cell? ⟨w.heap.size, 13, none⟩ = some (.int .i64 m)) := Lib.hid (fun u k => ⟨(k.1.cell (j := 2) (by omega)).1, (HC.out _ _ k.2.2).1⟩)
  replace HT := Lib.hid (show Tab W2.drew g s v (putTo X row y 2) ∧ Step w W2.drew g v v ∧ Blk W2.drew w.heap.size 43 Xp.toArray from ⟨HT.out.1.drew, HT.out.2.1.drew, HT.out.2.2⟩)
  refine wp_region_held_drew (S := fun w' => w'.cell? ⟨g, 3, none⟩ = some (v 2) ∧ w'.cell? ⟨w.heap.size, 13, none⟩ = some (.int .i64 m)) (by kernel_rfl) (SS.out _ HT.out) (fun hHeld => ?_)
  refine tk 0 hHeld ?_
  refine tk 1 hHeld ?_
  refine tk 2 hHeld ?_
  refine tk 3 hHeld ?_
  refine tk 4 hHeld ?_
  refine tk 5 hHeld ?_
  refine tk 6 hHeld ?_
  refine rd 7 (fun K hK => ?_)
  go_simp
  go_at_call 202
  refine (put_int (fun x => x.2.2.2.1) (v 2) (X 2) row _ (HT.out.1.ownPut (j := 2) (by omega)) (HX.out 2 (by omega)) (i0, hh, M, m, B, p, a, c, l)).mono ?_
  rintro e w2' ⟨rfl, hc, hgr⟩
  rw [← HY.out] at hc
  have HN := Lib.hid (Tab.putStep HT.out HP.out (j := 2) (by omega) (by omega) hgr hc)
  clear hc hgr
  go_wp2_with fail
  refine hK.out _ _ (SN.out _ HN.out) (fun hHeld => ?_)
  clear hK K
  refine wpAnyH_done (by kernel_rfl) ?_ _
  refine fin (fun W => Tab W g s v (putTo X row y 3) ∧ Step w W g v v ∧ Blk W w.heap.size 43 Xp.toArray) HN.out ?_
  rintro W3 HT'
  replace HT := Lib.hid HT'
  clear HT' HN SS SN
  go_upto_region 3 with fail
  have SS : Hid (∀ u, (Tab u g s v (putTo X row y 3) ∧ Step w u g v v ∧ Blk u w.heap.size 43 Xp.toArray) → u.cell? ⟨g, 4, none⟩ = some (v 3) ∧ u.rangeAt w.heap.size 14 [.int .i64 (B 0), .int .i64 (B 1), .int .i64 (B 2), .int .i64 (B 3), .int .i64 (B 4), .int .i64 (B 5)]) := Lib.hid (fun u k => ⟨(k.1.cell (j := 3) (by omega)).1, HR3.out _ _ k.2.2⟩)
  have SN : Hid (∀ u, (Tab u g s v (putTo X row y 4) ∧ Step w u g v v ∧ Blk u w.heap.size 43 Xp.toArray) → u.cell? ⟨g, 4, none⟩ = some (v 3) ∧ u.rangeAt w.heap.size 14 [.int .i64 (B 0), .int .i64 (B 1), .int .i64 (B 2), .int .i64 (B 3), .int .i64 (B 4), .int .i64 (B 5)]) := Lib.hid (fun u k => ⟨(k.1.cell (j := 3) (by omega)).1, HR3.out _ _ k.2.2⟩)
  replace HT := Lib.hid (show Tab W3.drew g s v (putTo X row y 3) ∧ Step w W3.drew g v v ∧ Blk W3.drew w.heap.size 43 Xp.toArray from ⟨HT.out.1.drew, HT.out.2.1.drew, HT.out.2.2⟩)
  refine wp_region_held_drew (S := fun w' => w'.cell? ⟨g, 4, none⟩ = some (v 3) ∧ w'.rangeAt w.heap.size 14 [.int .i64 (B 0), .int .i64 (B 1), .int .i64 (B 2), .int .i64 (B 3), .int .i64 (B 4), .int .i64 (B 5)]) (by kernel_rfl) (SS.out _ HT.out) (fun hHeld => ?_)
  refine tk 0 hHeld ?_
  refine tk 1 hHeld ?_
  refine tk 2 hHeld ?_
  refine tk 3 hHeld ?_
  refine tk 4 hHeld ?_
  refine tk 5 hHeld ?_
  refine tkl 6 rfl (yieldsIf_load_mid (by rfl) _ _ rfl _ _ rfl _ _ (fun _ h => h.2) Tryz.underlying41 rfl HS3.out) hHeld ?_
  refine rd 7 (fun K hK => ?_)
  go_simp
  go_at_call 203
  refine (put_box (fun x => x.2.2.2.2.1) (v 3) (X 3) row _ (HT.out.1.ownPut (j := 3) (by omega)) (HX.out 3 (by omega)) (i0, hh, M, m, B, p, a, c, l)).mono ?_
  rintro e w3' ⟨rfl, hc, hgr⟩
  rw [← HY.out] at hc
  have HN := Lib.hid (Tab.putStep HT.out HP.out (j := 3) (by omega) (by omega) hgr hc)
  clear hc hgr
  go_wp2_with fail
  refine hK.out _ _ (SN.out _ HN.out) (fun hHeld => ?_)
  clear hK K
  refine wpAnyH_done (by kernel_rfl) ?_ _
  refine fin (fun W => Tab W g s v (putTo X row y 4) ∧ Step w W g v v ∧ Blk W w.heap.size 43 Xp.toArray) HN.out ?_
  rintro W4 HT'
  replace HT := Lib.hid HT'
  clear HT' HN SS SN
  go_upto_region 4 with fail
  have SS : Hid (∀ u, (Tab u g s v (putTo X row y 4) ∧ Step w u g v v ∧ Blk u w.heap.size 43 Xp.toArray) → u.cell? ⟨g, 5, none⟩ = some (v 4) ∧ u.cell? ⟨w.heap.size, 20, none⟩ = some (.int .i64 p)) := Lib.hid (fun u k => ⟨(k.1.cell (j := 4) (by omega)).1, (HC.out _ _ k.2.2).2.1⟩)
  have SN : Hid (∀ u, (Tab u g s v (putTo X row y 5) ∧ Step w u g v v ∧ Blk u w.heap.size 43 Xp.toArray) → u.cell? ⟨g, 5, none⟩ = some (v 4) ∧ u.cell? ⟨w.heap.size, 20, none⟩ = some (.int .i64 p)) := Lib.hid (fun u k => ⟨(k.1.cell (j := 4) (by omega)).1, (HC.out _ _ k.2.2).2.1⟩)
  replace HT := Lib.hid (show Tab W4.drew g s v (putTo X row y 4) ∧ Step w W4.drew g v v ∧ Blk W4.drew w.heap.size 43 Xp.toArray from ⟨HT.out.1.drew, HT.out.2.1.drew, HT.out.2.2⟩)
  refine wp_region_held_drew (S := fun w' => w'.cell? ⟨g, 5, none⟩ = some (v 4) ∧ w'.cell? ⟨w.heap.size, 20, none⟩ = some (.int .i64 p)) (by kernel_rfl) (SS.out _ HT.out) (fun hHeld => ?_)
  refine tk 0 hHeld ?_
  refine tk 1 hHeld ?_
  refine tk 2 hHeld ?_
  refine tk 3 hHeld ?_
  refine tk 4 hHeld ?_
  refine tk 5 hHeld ?_
  refine tk 6 hHeld ?_
  refine rd 7 (fun K hK => ?_)
  go_simp
  go_at_call 202
  refine (put_int (fun x => x.2.2.2.2.2.1) (v 4) (X 4) row _ (HT.out.1.ownPut (j := 4) (by omega)) (HX.out 4 (by omega)) (i0, hh, M, m, B, p, a, c, l)).mono ?_
  rintro e w4' ⟨rfl, hc, hgr⟩
  rw [← HY.out] at hc
  have HN := Lib.hid (Tab.putStep HT.out HP.out (j := 4) (by omega) (by omega) hgr hc)
  clear hc hgr
  go_wp2_with fail
  refine hK.out _ _ (SN.out _ HN.out) (fun hHeld => ?_)
  clear hK K
  refine wpAnyH_done (by kernel_rfl) ?_ _
  refine fin (fun W => Tab W g s v (putTo X row y 5) ∧ Step w W g v v ∧ Blk W w.heap.size 43 Xp.toArray) HN.out ?_
  rintro W5 HT'
  replace HT := Lib.hid HT'
  clear HT' HN SS SN
  go_upto_region 5 with fail
  have SS : Hid (∀ u, (Tab u g s v (putTo X row y 5) ∧ Step w u g v v ∧ Blk u w.heap.size 43 Xp.toArray) → u.cell? ⟨g, 6, none⟩ = some (v 5) ∧ u.cell? ⟨w.heap.size, 21, none⟩ = some (.int .i64 a)) := Lib.hid (fun u k => ⟨(k.1.cell (j := 5) (by omega)).1, (HC.out _ _ k.2.2).2.2.1⟩)
  have SN : Hid (∀ u, (Tab u g s v (putTo X row y 6) ∧ Step w u g v v ∧ Blk u w.heap.size 43 Xp.toArray) → u.cell? ⟨g, 6, none⟩ = some (v 5) ∧ u.cell? ⟨w.heap.size, 21, none⟩ = some (.int .i64 a)) := Lib.hid (fun u k => ⟨(k.1.cell (j := 5) (by omega)).1, (HC.out _ _ k.2.2).2.2.1⟩)
  replace HT := Lib.hid (show Tab W5.drew g s v (putTo X row y 5) ∧ Step w W5.drew g v v ∧ Blk W5.drew w.heap.size 43 Xp.toArray from ⟨HT.out.1.drew, HT.out.2.1.drew, HT.out.2.2⟩)
  refine wp_region_held_drew (S := fun w' => w'.cell? ⟨g, 6, none⟩ = some (v 5) ∧ w'.cell? ⟨w.heap.size, 21, none⟩ = some (.int .i64 a)) (by kernel_rfl) (SS.out _ HT.out) (fun hHeld => ?_)
  refine tk 0 hHeld ?_
  refine tk 1 hHeld ?_
  refine tk 2 hHeld ?_
  refine tk 3 hHeld ?_
  refine tk 4 hHeld ?_
  refine tk 5 hHeld ?_
  refine tk 6 hHeld ?_
  refine rd 7 (fun K hK => ?_)
  go_simp
  go_at_call 202
  refine (put_int (fun x => x.2.2.2.2.2.2.1) (v 5) (X 5) row _ (HT.out.1.ownPut (j := 5) (by omega)) (HX.out 5 (by omega)) (i0, hh, M, m, B, p, a, c, l)).mono ?_
  rintro e w5' ⟨rfl, hc, hgr⟩
  rw [← HY.out] at hc
  have HN := Lib.hid (Tab.putStep HT.out HP.out (j := 5) (by omega) (by omega) hgr hc)
  clear hc hgr
  go_wp2_with fail
  refine hK.out _ _ (SN.out _ HN.out) (fun hHeld => ?_)
  clear hK K
  refine wpAnyH_done (by kernel_rfl) ?_ _
  refine fin (fun W => Tab W g s v (putTo X row y 6) ∧ Step w W g v v ∧ Blk W w.heap.size 43 Xp.toArray) HN.out ?_
  rintro W6 HT'
  replace HT := Lib.hid HT'
  clear HT' HN SS SN
  go_upto_region 6 with fail
  have SS : Hid (∀ u, (Tab u g s v (putTo X row y 6) ∧ Step w u g v v ∧ Blk u w.heap.size 43 Xp.toArray) → u.cell? ⟨g, 7, none⟩ = some (v 6) ∧ u.cell? ⟨w.heap.size, 22, none⟩ = some (.bool c)) := Lib.hid (fun u k => ⟨(k.1.cell (j := 6) (by omega)).1, (HC.out _ _ k.2.2).2.2.2.1⟩)
  have SN : Hid (∀ u, (Tab u g s v (putTo X row y 7) ∧ Step w u g v v ∧ Blk u w.heap.size 43 Xp.toArray) → u.cell? ⟨g, 7, none⟩ = some (v 6) ∧ u.cell? ⟨w.heap.size, 22, none⟩ = some (.bool c)) := Lib.hid (fun u k => ⟨(k.1.cell (j := 6) (by omega)).1, (HC.out _ _ k.2.2).2.2.2.1⟩)
  replace HT := Lib.hid (show Tab W6.drew g s v (putTo X row y 6) ∧ Step w W6.drew g v v ∧ Blk W6.drew w.heap.size 43 Xp.toArray from ⟨HT.out.1.drew, HT.out.2.1.drew, HT.out.2.2⟩)
  refine wp_region_held_drew (S := fun w' => w'.cell? ⟨g, 7, none⟩ = some (v 6) ∧ w'.cell? ⟨w.heap.size, 22, none⟩ = some (.bool c)) (by kernel_rfl) (SS.out _ HT.out) (fun hHeld => ?_)
  refine tk 0 hHeld ?_
  refine tk 1 hHeld ?_
  refine tk 2 hHeld ?_
  refine tk 3 hHeld ?_
  refine tk 4 hHeld ?_
  refine tk 5 hHeld ?_
  refine tk 6 hHeld ?_
  refine rd 7 (fun K hK => ?_)
  go_simp
  go_at_call 204
  refine (put_bool (fun x => x.2.2.2.2.2.2.2.1) (v 6) (X 6) row _ (HT.out.1.ownPut (j := 6) (by omega)) (HX.out 6 (by omega)) (i0, hh, M, m, B, p, a, c, l)).mono ?_
  rintro e w6' ⟨rfl, hc, hgr⟩
  rw [← HY.out] at hc
  have HN := Lib.hid (Tab.putStep HT.out HP.out (j := 6) (by omega) (by omega) hgr hc)
  clear hc hgr
  go_wp2_with fail
  refine hK.out _ _ (SN.out _ HN.out) (fun hHeld => ?_)
  clear hK K
  refine wpAnyH_done (by kernel_rfl) ?_ _
  refine fin (fun W => Tab W g s v (putTo X row y 7) ∧ Step w W g v v ∧ Blk W w.heap.size 43 Xp.toArray) HN.out ?_
  rintro W7 HT'
  replace HT := Lib.hid HT'
  clear HT' HN SS SN
  go_upto_region 7 with fail
  have SS : Hid (∀ u, (Tab u g s v (putTo X row y 7) ∧ Step w u g v v ∧ Blk u w.heap.size 43 Xp.toArray) → u.cell? ⟨g, 8, none⟩ = some (v 7) ∧ u.cell? ⟨w.heap.size, 23, none⟩ = some (.int .i64 l)) := Lib.hid (fun u k => ⟨(k.1.cell (j := 7) (by omega)).1, (HC.out _ _ k.2.2).2.2.2.2⟩)
  have SN : Hid (∀ u, (Tab u g s v (putTo X row y 8) ∧ Step w u g v v ∧ Blk u w.heap.size 43 Xp.toArray) → u.cell? ⟨g, 8, none⟩ = some (v 7) ∧ u.cell? ⟨w.heap.size, 23, none⟩ = some (.int .i64 l)) := Lib.hid (fun u k => ⟨(k.1.cell (j := 7) (by omega)).1, (HC.out _ _ k.2.2).2.2.2.2⟩)
  replace HT := Lib.hid (show Tab W7.drew g s v (putTo X row y 7) ∧ Step w W7.drew g v v ∧ Blk W7.drew w.heap.size 43 Xp.toArray from ⟨HT.out.1.drew, HT.out.2.1.drew, HT.out.2.2⟩)
  refine wp_region_held_drew (S := fun w' => w'.cell? ⟨g, 8, none⟩ = some (v 7) ∧ w'.cell? ⟨w.heap.size, 23, none⟩ = some (.int .i64 l)) (by kernel_rfl) (SS.out _ HT.out) (fun hHeld => ?_)
  refine tk 0 hHeld ?_
  refine tk 1 hHeld ?_
  refine tk 2 hHeld ?_
  refine tk 3 hHeld ?_
  refine tk 4 hHeld ?_
  refine tk 5 hHeld ?_
  refine tk 6 hHeld ?_
  refine rd 7 (fun K hK => ?_)
  go_simp
  go_at_call 202
  refine (put_int (fun x => x.2.2.2.2.2.2.2.2) (v 7) (X 7) row _ (HT.out.1.ownPut (j := 7) (by omega)) (HX.out 7 (by omega)) (i0, hh, M, m, B, p, a, c, l)).mono ?_
  rintro e w7' ⟨rfl, hc, hgr⟩
  rw [← HY.out] at hc
  have HN := Lib.hid (Tab.putStep HT.out HP.out (j := 7) (by omega) (by omega) hgr hc)
  clear hc hgr
  go_wp2_with fail
  refine hK.out _ _ (SN.out _ HN.out) (fun hHeld => ?_)
  clear hK K
  refine wpAnyH_done (by kernel_rfl) ?_ _
  refine fin (fun W => Tab W g s v (putTo X row y 8) ∧ Step w W g v v ∧ Blk W w.heap.size 43 Xp.toArray) HN.out ?_
  rintro W8 HT'
  replace HT := Lib.hid HT'
  clear HT' HN SS SN
  go_wp2
  go_end0
  exact ⟨rfl, HT.out.1, HT.out.2.1⟩

end Go.Proofs.YtkondkajpmafkaaGreat
