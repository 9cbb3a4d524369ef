/-
  What the program's lay of layer 6 answers.
-/
import Derived.Test.YtpobnmcjmclgbaaPrtK
namespace Go.Proofs.Ytpobnmcjmclgbaa
open Go.RowKit

theorem layings_ex (X : List Value) (w : World) :
    Calls Try.prog 58 #[.agg X.toArray] w fun e w' => ∃ G GM, e = .returned (.map (some GM)) ∧ w.heap.size ≤ G ∧ w'.heap[GM]? = some (.map (laysE G) 5) ∧ Blk w' G 39 X.toArray ∧ Below w.heap.size w w' := by
  refine (layings_any X w).mono ?_
  rintro e w' ⟨rfl, rfl⟩
  refine ⟨w.heap.size, w.heap.size + 1, rfl, Nat.le_refl _, ?_, (Blk.new w 39 X.toArray).alloc _, balloc (alloc_below _ _) _⟩
  have h := heap_alloc_new (w.alloc (.cells X.toArray 39)) (.map (laysE w.heap.size) 5)
  rw [World.size_alloc] at h
  exact h
theorem map_keep {w w' : World} {b n : Nat} {es : Array MapEntry} (h : w.heap[b]? = some (.map es n)) (hb : Below w.heap.size w w') : w'.heap[b]? = some (.map es n) := (hb.block b (Array.getElem?_eq_some_iff.1 h).1).trans h
theorem map_set {w : World} {b n : Nat} {es : Array MapEntry} (h : w.heap[b]? = some (.map es n)) {g t : Nat} {cs : Array Value} (hg : Blk w g t cs) (o : Nat) (v : Value) : (w.setCell ⟨g, o, none⟩ v).heap[b]? = some (.map es n) := by
  have hne : b ≠ g := fun e => by subst e; unfold Blk at hg; rw [hg] at h; cases h
  rw [← h]
  simp [World.setCell, Array.getElem?_modify, Ne.symm hne]
theorem map_sets : ∀ (vs : List Value) {w : World} {b n : Nat} {es : Array MapEntry} (_ : w.heap[b]? = some (.map es n)) {g t : Nat} {cs : Array Value} (_ : Blk w g t cs) (o : Nat), (w.setCells g o vs).heap[b]? = some (.map es n)
  | [], _, _, _, _, h, _, _, _, _, _ => h
  | v :: vs, _, _, _, _, h, _, _, _, hg, o => map_sets vs (map_set h hg o v) (hg.set_ o v) (o + 1)

set_option maxHeartbeats 4000000 in
set_option maxRecDepth 100000 in
theorem lay_any (P Q : PT) (a : Option Addr) (len cap : Nat) (ks : List Int) (w : World) (hbd : 0 ≤ P.1 ∧ P.1 ≤ 31) (hok : ksOk ks = true) (row : Row w a len ks) :
    Calls Try.prog 54 #[.agg (pl P).toArray, .agg (pl Q).toArray, .slice a len cap] w fun e w' => e = .returned (.agg (pl (withT P Q ks)).toArray) ∧ Below w.heap.size w w' := by
  have HL := Lib.hid row.1
  have hbig := row.2.1
  have HRow := Lib.hid row
  have HOk := Lib.hid hok
  clear row hok
  have KQ := Lib.hid (blkAt ((Blk.new (w.alloc (.cells (pl P).toArray 39)) 39 (pl Q).toArray).alloc (.cells (pl zT).toArray 39)) (g' := w.heap.size + 1) (by simp))
  go_enter Try.func54, Try.ntmps54
  go_wp2_with (refine wpList_load_mid rfl 39 (.tmp 4) rfl (w.heap.size + 1) 0 rfl (pl Q) _ (blk_whole KQ.out) Try.underlying39 rfl (pl_size Q) ?_)
  refine (layings_ex (pl Q) _).mono ?_
  rintro e w1 ⟨G, GM, rfl, hG, hm, kg, b1⟩
  have hG2 : w.heap.size + 1 + 1 + 1 ≤ G := by simpa using hG
  have KP := Lib.hid ((((Blk.new w 39 (pl P).toArray).alloc (.cells (pl Q).toArray 39)).alloc (.cells (pl zT).toArray 39)).keep b1)
  have KR := Lib.hid (blkAt ((Blk.new ((w.alloc (.cells (pl P).toArray 39)).alloc (.cells (pl Q).toArray 39)) 39 (pl zT).toArray).keep b1) (g' := w.heap.size + 1 + 1) (by simp))
  have HB := Lib.hid (bthen (balloc (balloc (alloc_below _ _) _) _) b1)
  have HM := Lib.hid hm
  have KG := Lib.hid kg
  clear b1 hm kg hG KQ
  go_wp2
  go_loopw [14] (fun i wr => ∃ j : Nat, ∃ P' : PT, j ≤ len ∧ i = .int .i64 j ∧ P' = withT P Q (ks.take j) ∧ (0 ≤ P'.1 ∧ P'.1 ≤ 31) ∧ Blk wr w.heap.size 39 (pl P').toArray ∧ Blk wr (w.heap.size + 1 + 1) 39 (pl zT).toArray ∧ Blk wr G 39 (pl Q).toArray ∧ wr.heap[GM]? = some (.map (laysE G) 5) ∧ Below w.heap.size w wr) (fun i _ => len - (intOf i).toNat)
  case atStart => exact ⟨0, P, by omega, rfl, rfl, hbd, KP.out, KR.out, KG.out, HM.out, HB.out⟩
  case round =>
    clear KP KR HB KG HM hbd
    obtain ⟨j, P', hj, rfl, hP, hbd, hp, hr, hg, hm, hb⟩ := hrel
    have HP := Lib.hid hP
    have KP := Lib.hid hp
    have KR := Lib.hid hr
    have KG := Lib.hid hg
    have HM := Lib.hid hm
    have HB := Lib.hid hb
    clear hP hp hr hg hm hb
    by_cases hlt : j < len
    · obtain ⟨b, off, k, rfl, hv, c0⟩ := row_at6 (row_keep HRow.out HB.out) hlt
      have hj0 : (0 : Int) ≤ (j : Int) := by omega
      have hj1 : (j : Int) < (len : Int) := by omega
      have hk : kOk k = true := List.all_eq_true.1 HOk.out k (List.mem_of_getElem? hv)
      have HK := Lib.hid hk
      have HW1 : Hid (withT P Q (ks.take (j + 1)) = (addK P'.1 k, (layT k P' Q).2)) := Lib.hid (by rw [with_succ hv, ← HP.out]; rfl)
      have HBd := Lib.hid (addK_bound hbd hk)
      have HA := Lib.hid (or_addK hbd hk)
      clear hv HP
      have hget := lays_get HM.out hk
      have hE := cl_enters hk
      have HC := Lib.hid (cl_any hk G P' Q)
      clear hk
      obtain ⟨Fn, hFn⟩ : ∃ Fn, Fn = clOf k := ⟨_, rfl⟩
      obtain ⟨cp, hcp⟩ : ∃ cp, cp = capOf G k := ⟨_, rfl⟩
      rw [← hFn, ← hcp] at hget
      rw [← hFn] at hE
      rw [← hFn, ← hcp] at HC
      clear hFn hcp
      unfold Enters at hE
      go_wp2_with (refine wpList_load_mid rfl 39 (.tmp 3) rfl w.heap.size 0 rfl (pl P') _ (blk_whole KP.out) Try.underlying39 rfl (pl_size P') ?_)
      refine (HC.out _ KG.out).mono ?_
      rintro e w3 ⟨rfl, b3⟩
      clear hget hE HC
      obtain ⟨P2, hP2⟩ : ∃ P2, P2 = layT k P' Q := ⟨_, rfl⟩
      have hH : P2.1 = P'.1 := by rw [hP2]; exact layT_has k P' Q
      rw [← hP2] at HW1
      rw [← hP2]
      clear hP2
      replace KP := Lib.hid (Blk.keep KP.out b3)
      replace KR := Lib.hid (Blk.keep KR.out b3)
      replace KG := Lib.hid (Blk.keep KG.out b3)
      replace HM := Lib.hid (map_keep HM.out b3)
      replace HB := Lib.hid (bthen HB.out b3)
      clear b3 c0
      rw [← hH] at HA HW1 HBd
      clear hH hbd
      have HS5 := Lib.hid (splice_all (X := pl P2) (Z := pl P') rfl ▸ blk_setCells (pl P2) KP.out (by simp [pl_len]))
      go_wp2_with (refine wpList_store_mid rfl 39 (.tmp 3) (.tmp 22) rfl w.heap.size 0 (pl P2).toArray rfl rfl (blk_there KP.out (by simp [pl_len])) (pl_size' _) (pl_one _) ?_)
      refine fin (fun W => Blk W w.heap.size 39 (pl P2).toArray ∧ Blk W (w.heap.size + 1 + 1) 39 (pl zT).toArray ∧ Blk W G 39 (pl Q).toArray ∧ W.heap[GM]? = some (.map (laysE G) 5) ∧ Below w.heap.size w W) ⟨HS5.out, blk_setFar _ KR.out (by omega), blk_setFar _ KG.out (by omega), map_sets _ HM.out KP.out 0, below_setCells _ HB.out (Nat.le_refl _)⟩ ?_
      clear KP KR KG HM HB HS5
      rintro W ⟨kp, kr, kg, hm, hb⟩
      have KP := Lib.hid kp
      have KR := Lib.hid kr
      have KG := Lib.hid kg
      have HM := Lib.hid hm
      have HB := Lib.hid hb
      clear kr kg hm hb
      have cp0 : W.cell? ⟨w.heap.size, 0, none⟩ = some (.int .i64 P2.1) := kp.cell 0
      have fp0 : W.frozen? ⟨w.heap.size, 0, none⟩ = false := kp.frozen 0
      clear kp
      have KPs : Hid (∀ v, Blk (W.setCell ⟨w.heap.size, 0, none⟩ (.int .i64 v)) w.heap.size 39 (pl (v, P2.2)).toArray) := Lib.hid (fun v => by have := KP.out.set_ 0 (.int .i64 v); simpa [pl_set] using this)
      go_wp2
      refine wp_region_held_drew (S := fun _ => True) (by kernel_rfl) trivial (fun hHeld => ?_)
      refine wpAnyH_take (i := 0) (v := ?_) rfl (by kernel_rfl) (by kernel_rfl) (by kernel_rfl) (fun _ _ _ h => h) (Or.inl ⟨by rfl, ?_⟩) hHeld ?_
      rotate_left
      · intro w hSw
        go_simp
        with_reducible rfl
      simp only [Act.put, List.getElem_toArray, List.getElem_cons_zero, List.setIfInBounds_toArray, List.set_cons_zero, List.set_cons_succ]
      refine wpAnyH_take (i := 2) (v := ?_) rfl (by kernel_rfl) (by kernel_rfl) (by kernel_rfl) (fun _ _ _ h => h) (Or.inl ⟨by rfl, ?_⟩) hHeld ?_
      rotate_left
      · intro w hSw
        go_simp
        with_reducible rfl
      simp only [Act.put, List.getElem_toArray, List.getElem_cons_zero, List.getElem_cons_succ, List.setIfInBounds_toArray, List.set_cons_zero, List.set_cons_succ]
      refine wpAnyH_ready (rs := [1, 3]) (by kernel_rfl) (by simp) ?_
      refine AllReadyH.cons rfl (fun K hK => ?_) (AllReadyH.cons rfl (fun K hK => ?_) AllReadyH.nil)
      · go_simp
        refine hK.out _ _ trivial (fun hHeld => ?_)
        clear hK K
        refine wpAnyH_ready (rs := [3]) (by kernel_rfl) (by simp) ?_
        refine AllReadyH.cons rfl (fun K hK => ?_) AllReadyH.nil
        go_simp
        go_at_call 55
        refine (pbit_any HK.out _).mono ?_
        rintro e w6 ⟨rfl, rfl⟩
        go_wp2_with fail
        refine hK.out _ _ trivial (fun hHeld => ?_)
        clear hK K
        refine wpAnyH_take (i := 4) (v := ?_) rfl (by kernel_rfl) (by kernel_rfl) (by kernel_rfl) (fun _ _ _ h => h) (Or.inl ⟨by rfl, ?_⟩) hHeld ?_
        rotate_left
        · intro w hSw
          go_simp
          with_reducible rfl
        simp only [Act.put, List.getElem_toArray, List.getElem_cons_zero, List.getElem_cons_succ, List.setIfInBounds_toArray, List.set_cons_zero, List.set_cons_succ]
        refine wpAnyH_take (i := 5) (v := ?_) rfl (by kernel_rfl) (by kernel_rfl) (by kernel_rfl) (fun _ _ _ h => h) (Or.inl ⟨by rfl, ?_⟩) hHeld ?_
        rotate_left
        · intro w hSw
          go_simp
          with_reducible rfl
        simp only [Act.put, List.getElem_toArray, List.getElem_cons_zero, List.getElem_cons_succ, List.setIfInBounds_toArray, List.set_cons_zero, List.set_cons_succ]
        refine wpAnyH_ready (rs := [6]) (by kernel_rfl) (by simp) ?_
        refine AllReadyH.cons rfl (fun K hK => ?_) AllReadyH.nil
        rw [HA.out]
        go_simp
        refine hK.out _ _ trivial (fun hHeld => ?_)
        clear hK K
        refine wpAnyH_done (by kernel_rfl) ?_ _
        clear hHeld
        refine fin (fun W => Blk W w.heap.size 39 (pl (addK P2.1 k, P2.2)).toArray ∧ Blk W (w.heap.size + 1 + 1) 39 (pl zT).toArray ∧ Blk W G 39 (pl Q).toArray ∧ W.heap[GM]? = some (.map (laysE G) 5) ∧ Below w.heap.size w W) ⟨Blk.drew (KPs.out _), Blk.drew (KR.out.far (p := ⟨w.heap.size, 0, none⟩) (by simp; omega) _), Blk.drew (KG.out.far (p := ⟨w.heap.size, 0, none⟩) (by simp; omega) _), map_set HM.out KP.out 0 _, bdrewn (HB.out.setCell (p := ⟨w.heap.size, 0, none⟩) (Nat.le_refl _) _)⟩ ?_
        clear KP KR KG HM HB KPs cp0 fp0
        rintro W2 ⟨kp, kr, kg, hm, hb⟩
        have KP := Lib.hid kp
        have KR := Lib.hid kr
        have KG := Lib.hid kg
        have HM := Lib.hid hm
        have HB := Lib.hid hb
        clear kp kr kg hm hb
        go_wp2
        go_roundw
        case rel => exact ⟨j + 1, (addK P2.1 k, P2.2), by omega, by go_num, HW1.out.symm, HBd.out, KP.out, KR.out, KG.out, HM.out, HB.out⟩
        case measure => simp [intOf] <;> omega
      · go_simp
        go_at_call 55
        refine (pbit_any HK.out _).mono ?_
        rintro e w6 ⟨rfl, rfl⟩
        go_wp2_with fail
        refine hK.out _ _ trivial (fun hHeld => ?_)
        clear hK K
        refine wpAnyH_ready (rs := [1]) (by kernel_rfl) (by simp) ?_
        refine AllReadyH.cons rfl (fun K hK => ?_) AllReadyH.nil
        go_simp
        refine hK.out _ _ trivial (fun hHeld => ?_)
        clear hK K
        refine wpAnyH_take (i := 4) (v := ?_) rfl (by kernel_rfl) (by kernel_rfl) (by kernel_rfl) (fun _ _ _ h => h) (Or.inl ⟨by rfl, ?_⟩) hHeld ?_
        rotate_left
        · intro w hSw
          go_simp
          with_reducible rfl
        simp only [Act.put, List.getElem_toArray, List.getElem_cons_zero, List.getElem_cons_succ, List.setIfInBounds_toArray, List.set_cons_zero, List.set_cons_succ]
        refine wpAnyH_take (i := 5) (v := ?_) rfl (by kernel_rfl) (by kernel_rfl) (by kernel_rfl) (fun _ _ _ h => h) (Or.inl ⟨by rfl, ?_⟩) hHeld ?_
        rotate_left
        · intro w hSw
          go_simp
          with_reducible rfl
        simp only [Act.put, List.getElem_toArray, List.getElem_cons_zero, List.getElem_cons_succ, List.setIfInBounds_toArray, List.set_cons_zero, List.set_cons_succ]
        refine wpAnyH_ready (rs := [6]) (by kernel_rfl) (by simp) ?_
        refine AllReadyH.cons rfl (fun K hK => ?_) AllReadyH.nil
        rw [HA.out]
        go_simp
        refine hK.out _ _ trivial (fun hHeld => ?_)
        clear hK K
        refine wpAnyH_done (by kernel_rfl) ?_ _
        clear hHeld
        refine fin (fun W => Blk W w.heap.size 39 (pl (addK P2.1 k, P2.2)).toArray ∧ Blk W (w.heap.size + 1 + 1) 39 (pl zT).toArray ∧ Blk W G 39 (pl Q).toArray ∧ W.heap[GM]? = some (.map (laysE G) 5) ∧ Below w.heap.size w W) ⟨Blk.drew (KPs.out _), Blk.drew (KR.out.far (p := ⟨w.heap.size, 0, none⟩) (by simp; omega) _), Blk.drew (KG.out.far (p := ⟨w.heap.size, 0, none⟩) (by simp; omega) _), map_set HM.out KP.out 0 _, bdrewn (HB.out.setCell (p := ⟨w.heap.size, 0, none⟩) (Nat.le_refl _) _)⟩ ?_
        clear KP KR KG HM HB KPs cp0 fp0
        rintro W2 ⟨kp, kr, kg, hm, hb⟩
        have KP := Lib.hid kp
        have KR := Lib.hid kr
        have KG := Lib.hid kg
        have HM := Lib.hid hm
        have HB := Lib.hid hb
        clear kp kr kg hm hb
        go_wp2
        go_roundw
        case rel => exact ⟨j + 1, (addK P2.1 k, P2.2), by omega, by go_num, HW1.out.symm, HBd.out, KP.out, KR.out, KG.out, HM.out, HB.out⟩
        case measure => simp [intOf] <;> omega
    · obtain rfl : j = len := by omega
      have et : ks.take j = ks := List.take_of_length_le (by rw [HL.out]; exact Nat.le_refl _)
      rw [et] at HP
      clear et hbd
      have HS5 := Lib.hid (splice_all (X := pl P') (Z := pl zT) rfl ▸ blk_setCells (pl P') KR.out (by simp [pl_len]))
      go_wp2_with (first | refine wpList_store_mid rfl 39 (.tmp 6) (.tmp 30) rfl (w.heap.size + 1 + 1) 0 (pl P').toArray rfl rfl (blk_there KR.out (by simp [pl_len])) (pl_size' _) (pl_one _) ?_ | refine wpList_load_mid rfl 39 (.tmp 3) rfl w.heap.size 0 rfl (pl P') _ (blk_whole KP.out) Try.underlying39 rfl (pl_size P') ?_)
      refine fin (fun W => Blk W (w.heap.size + 1 + 1) 39 (pl P').toArray ∧ Below w.heap.size w W) ⟨HS5.out, below_setCells _ HB.out (by omega)⟩ ?_
      rintro W ⟨kr, hb⟩
      have hl := run_loadVar_mid W (w.heap.size + 1 + 1) 0 39 (pl P') _ (blk_whole kr) Try.underlying39 rfl (pl_size P')
      simp only [Act.put, List.setIfInBounds_toArray, List.set_cons_zero, List.set_cons_succ]
      exact bodyPost_ret (v := .agg (pl P').toArray) (results_cell Try.results54 rfl hl) rfl ⟨by rw [HP.out], hb⟩

end Go.Proofs.Ytpobnmcjmclgbaa
