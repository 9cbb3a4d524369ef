/-
  What the program's only, bare, valued and Right of layer 6 answer.
-/
import Derived.Test.YtpobnmcjmclgbaaPrtL
import Derived.Test.YtpobnmcjmclgbaaMShp
import Derived.Test.YtpobnmcjmclgbaaMAff
namespace Go.Proofs.Ytpobnmcjmclgbaa
open Go.RowKit

theorem zT_bound : 0 ≤ zT.1 ∧ zT.1 ≤ 31 := by decide
theorem eqT_run (P Q : PT) (w : World) : (Op.equalIn 10000 39 (.agg (pl P).toArray) (.agg (pl Q).toArray)).run Try.prog w = .ok (eqT P Q) w := eqParts _ _ _ _ _ _ _ _ _ _ _ _ _ _ _ _ w

set_option maxHeartbeats 4000000 in
set_option maxRecDepth 100000 in
theorem only_any (P : PT) (s : Int) (w : World) :
    Calls Try.prog 38 #[.agg (pl P).toArray, .int .i64 s] w fun e w' => e = .returned (.agg (pl (pickT s P)).toArray) ∧ Below w.heap.size w w' := by
  rw [← with_pick s P]
  obtain ⟨R, hR⟩ : ∃ R, R = withT zT P (kindsL s) := ⟨_, rfl⟩
  have HC : Hid (∀ a cap w, Row w a (kindsL s).length (kindsL s) → Calls Try.prog 54 #[.agg (pl zT).toArray, .agg (pl P).toArray, .slice a (kindsL s).length cap] w fun e w' => e = .returned (.agg (pl R).toArray) ∧ Below w.heap.size w w') := Lib.hid (fun a cap w row => by rw [hR]; exact lay_any zT P a _ cap (kindsL s) w zT_bound (kindsL_ok s) row)
  rw [← hR]
  clear hR
  have hu := Try.underlying39
  have HSz := Lib.hid (pl_size P)
  have KP := Lib.hid ((Blk.new w 39 (pl P).toArray).alloc (.cells (pl zT).toArray 39))
  have KR := Lib.hid (blkAt (Blk.new (w.alloc (.cells (pl P).toArray 39)) 39 (pl zT).toArray) (g' := w.heap.size + 1) (by simp))
  go_enter Try.func38, Try.ntmps38
  go_wp2
  refine wp_region_held_drew (S := fun w' => w'.rangeAt w.heap.size 0 (pl P)) (by kernel_rfl) (blk_whole (Blk.drew KP.out)) (fun hHeld => ?_)
  refine wpAnyH_take (i := 0) (v := ?_) rfl (by kernel_rfl) (by kernel_rfl) (by kernel_rfl) (fun _ _ _ h => h) (Or.inl ⟨by rfl, ?_⟩) hHeld ?_
  rotate_left
  · intro w hSw
    go_simp
    with_reducible rfl
  simp only [Act.put, List.getElem_toArray, List.getElem_cons_zero, List.setIfInBounds_toArray, List.set_cons_zero, List.set_cons_succ]
  refine wpAnyH_take (i := 1) (v := _) rfl (by kernel_rfl) (by kernel_rfl) (by kernel_rfl) (fun _ _ _ h => h) (yieldsIf_load_mid (by rfl) _ _ rfl _ _ rfl _ _ (fun _ h => h) hu rfl HSz.out) hHeld ?_
  simp only [Act.put, List.getElem_toArray, List.getElem_cons_zero, List.getElem_cons_succ, List.setIfInBounds_toArray, List.set_cons_zero, List.set_cons_succ]
  refine wpAnyH_take (i := 2) (v := ?_) rfl (by kernel_rfl) (by kernel_rfl) (by kernel_rfl) (fun _ _ _ h => h) (Or.inl ⟨by rfl, ?_⟩) hHeld ?_
  rotate_left
  · intro w hSw
    go_simp
    with_reducible rfl
  simp only [Act.put, List.getElem_toArray, List.getElem_cons_zero, List.getElem_cons_succ, List.setIfInBounds_toArray, List.set_cons_zero, List.set_cons_succ]
  refine wpAnyH_ready (rs := [3]) (by kernel_rfl) (by simp) ?_
  refine AllReadyH.cons rfl (fun K hK => ?_) AllReadyH.nil
  go_simp
  go_at_call 39
  refine (pkinds_any s _).mono ?_
  rintro e w1 ⟨ka, kc, rfl, hrow, b1⟩
  go_wp2_with fail
  refine hK.out _ _ (blk_whole (Blk.keep (Blk.drew KP.out) b1)) (fun hHeld => ?_)
  clear hK K hHeld
  replace KP := Lib.hid (Blk.keep (Blk.drew KP.out) b1)
  replace KR := Lib.hid (Blk.keep (Blk.drew KR.out) b1)
  have HB := Lib.hid (bthen (balloc (alloc_below _ _) _) (bdrew b1))
  have HRow := Lib.hid hrow
  have hHeld : Hid (w1.rangeAt w.heap.size 0 (pl P)) := Lib.hid (blk_whole KP.out)
  clear b1 hrow
  replace hHeld := hHeld.out
  refine wpAnyH_ready (rs := [4]) (by kernel_rfl) (by simp) ?_
  refine AllReadyH.cons rfl (fun K hK => ?_) AllReadyH.nil
  go_simp
  go_at_call 54
  refine (HC.out _ _ _ HRow.out).mono ?_
  rintro e w2 ⟨rfl, b2⟩
  go_wp2_with fail
  refine hK.out _ _ (blk_whole (Blk.keep KP.out b2)) (fun hHeld => ?_)
  clear hK K hHeld
  replace KP := Lib.hid (Blk.keep KP.out b2)
  replace KR := Lib.hid (Blk.keep KR.out b2)
  replace HB := Lib.hid (bthen HB.out b2)
  have hHeld := blk_whole KP.out
  clear b2 HRow
  have HS5 := Lib.hid (splice_all (X := pl R) (Z := pl zT) rfl ▸ blk_setCells (pl R) KR.out (by simp [pl_len]))
  refine wpAnyH_ready (rs := [5]) (by kernel_rfl) (by simp) ?_
  refine AllReadyH.cons rfl (fun K hK => ?_) AllReadyH.nil
  rw [if_pos (by rfl)]
  refine wp_store_mid 39 _ _ rfl (w.heap.size + 1) 0 (pl R).toArray rfl rfl (blk_there KR.out (by simp [pl_len])) (pl_size' _) (pl_one _) ?_
  refine hK.out _ _ (blk_whole (blk_setFar _ KP.out (by omega))) (fun hHeld => ?_)
  clear hK K
  refine wpAnyH_done (by kernel_rfl) ?_ _
  clear hHeld
  go_wp2_with fail
  refine fin (fun W => Blk W (w.heap.size + 1) 39 (pl R).toArray ∧ Below w.heap.size w W) ⟨HS5.out, below_setCells _ HB.out (by omega)⟩ ?_
  rintro W ⟨kr, hb⟩
  have hl := run_loadVar_mid W (w.heap.size + 1) 0 39 (pl R) _ (blk_whole kr) Try.underlying39 rfl (pl_size R)
  exact bodyPost_ret (v := .agg (pl R).toArray) (results_cell Try.results38 rfl hl) rfl ⟨rfl, hb⟩

set_option maxHeartbeats 4000000 in
set_option maxRecDepth 100000 in
theorem bare_any (P : PT) (w : World) :
    Calls Try.prog 24 #[.agg (pl P).toArray] w fun e w' => e = .returned (.bool (bareB P)) ∧ Below w.heap.size w w' := by
  have HC := Lib.hid (only_any P P.1)
  have heq := eqT_run (pickT P.1 P) P
  rw [show eqT (pickT P.1 P) P = bareB P from rfl] at heq
  obtain ⟨R, hR⟩ : ∃ R, R = pickT P.1 P := ⟨_, rfl⟩
  rw [← hR] at HC heq
  clear hR
  obtain ⟨b, hb⟩ : ∃ b, b = bareB P := ⟨_, rfl⟩
  rw [← hb] at heq
  rw [← hb]
  clear hb
  have hu := Try.underlying39
  have HSz := Lib.hid (pl_size P)
  have KP := Lib.hid (Blk.new w 39 (pl P).toArray)
  go_enter Try.func24, Try.ntmps24
  go_wp2
  refine wp_region_held_drew (S := fun w' => w'.rangeAt w.heap.size 0 (pl P) ∧ w'.cell? ⟨w.heap.size, 0, none⟩ = some (.int .i64 P.1)) (by kernel_rfl) ⟨blk_whole (Blk.drew KP.out), KP.out.cell 0⟩ (fun hHeld => ?_)
  refine wpAnyH_take (i := 0) (v := _) rfl (by kernel_rfl) (by kernel_rfl) (by kernel_rfl) (fun _ _ _ h => h) (yieldsIf_load_mid (by rfl) _ _ rfl _ _ rfl _ _ (fun _ h => h.1) hu rfl HSz.out) hHeld ?_
  simp only [Act.put, List.getElem_toArray, List.getElem_cons_zero, List.setIfInBounds_toArray, List.set_cons_zero, List.set_cons_succ]
  refine wpAnyH_take (i := 1) (v := ?_) rfl (by kernel_rfl) (by kernel_rfl) (by kernel_rfl) (fun _ _ _ h => h) (Or.inl ⟨by rfl, ?_⟩) hHeld ?_
  rotate_left
  · rintro w ⟨s1, s2⟩
    go_simp
    with_reducible rfl
  simp only [Act.put, List.getElem_toArray, List.getElem_cons_zero, List.getElem_cons_succ, List.setIfInBounds_toArray, List.set_cons_zero, List.set_cons_succ]
  refine wpAnyH_take (i := 2) (v := ?_) rfl (by kernel_rfl) (by kernel_rfl) (by kernel_rfl) (fun _ _ _ h => h) (Or.inl ⟨by rfl, ?_⟩) hHeld ?_
  rotate_left
  · rintro w ⟨s1, s2⟩
    go_simp
    with_reducible rfl
  simp only [Act.put, List.getElem_toArray, List.getElem_cons_zero, List.getElem_cons_succ, List.setIfInBounds_toArray, List.set_cons_zero, List.set_cons_succ]
  refine wpAnyH_take (i := 4) (v := _) rfl (by kernel_rfl) (by kernel_rfl) (by kernel_rfl) (fun _ _ _ h => h) (yieldsIf_load_mid (by rfl) _ _ rfl _ _ rfl _ _ (fun _ h => h.1) hu rfl HSz.out) hHeld ?_
  simp only [Act.put, List.getElem_toArray, List.getElem_cons_zero, List.getElem_cons_succ, List.setIfInBounds_toArray, List.set_cons_zero, List.set_cons_succ]
  refine wpAnyH_ready (rs := [3]) (by kernel_rfl) (by simp) ?_
  refine AllReadyH.cons rfl (fun K hK => ?_) AllReadyH.nil
  go_simp
  go_at_call 38
  refine (HC.out _).mono ?_
  rintro e w1 ⟨rfl, b1⟩
  go_wp2_with fail
  refine hK.out _ _ ⟨blk_whole (Blk.keep (Blk.drew KP.out) b1), (Blk.keep (Blk.drew KP.out) b1).cell 0⟩ (fun hHeld => ?_)
  clear hK K
  have HB := Lib.hid (bthen (alloc_below _ _) (bdrew b1))
  clear b1
  refine wpAnyH_take (i := 5) (v := ?_) rfl (by kernel_rfl) (by kernel_rfl) (by kernel_rfl) (fun _ _ _ h => h) (Or.inl ⟨by rfl, ?_⟩) hHeld ?_
  rotate_left
  · rintro w ⟨s1, s2⟩
    go_simp
    with_reducible rfl
  simp only [Act.put, List.getElem_toArray, List.getElem_cons_zero, List.getElem_cons_succ, List.setIfInBounds_toArray, List.set_cons_zero, List.set_cons_succ]
  refine wpAnyH_take (i := 6) (v := ?_) rfl (by kernel_rfl) (by kernel_rfl) (by kernel_rfl) (fun _ _ _ h => h) (Or.inl ⟨by rfl, ?_⟩) hHeld ?_
  rotate_left
  · rintro w ⟨s1, s2⟩
    go_simp
    with_reducible rfl
  simp only [Act.put, List.getElem_toArray, List.getElem_cons_zero, List.getElem_cons_succ, List.setIfInBounds_toArray, List.set_cons_zero, List.set_cons_succ]
  refine wpAnyH_done (by kernel_rfl) ?_ _
  clear hHeld
  go_wp2_with fail
  go_ret
  exact ⟨rfl, HB.out⟩

end Go.Proofs.Ytpobnmcjmclgbaa
