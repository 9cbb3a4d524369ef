/-
  5 texts in one file, each with its own heading.
-/
import Derived.Test.YtkondkajpmafkaaGreatMT08
import Derived.Test.YtkondkajpmafkaaGreatMT04
/-
  What the program's lay of layer 6 answers.
-/
namespace Go.Proofs.YtkondkajpmafkaaGreat
open Go.RowKit

theorem layings_ex (X : List Value) (w : World) :
    Calls Tryz.prog 170 #[.agg X.toArray] w fun e w' => ∃ G GM, e = .returned (.map (some GM)) ∧ w.heap.size ≤ G ∧ w'.heap[GM]? = some (.map (laysE G) 5) ∧ Blk w' G 43 X.toArray ∧ Below w.heap.size w w' := by
  refine (layings_any X w).mono ?_
  rintro e w' ⟨rfl, rfl⟩
  refine ⟨w.heap.size, w.heap.size + 1, rfl, Nat.le_refl _, ?_, (Blk.new w 43 X.toArray).alloc _, balloc (alloc_below _ _) _⟩
  have h := heap_alloc_new (w.alloc (.cells X.toArray 43)) (.map (laysE w.heap.size) 5)
  rw [World.size_alloc] at h
  exact h
theorem map_keep {w w' : World} {b n : Nat} {es : Array MapEntry} (h : w.heap[b]? = some (.map es n)) (hb : Below w.heap.size w w') : w'.heap[b]? = some (.map es n) := (hb.block b (Array.getElem?_eq_some_iff.1 h).1).trans h
theorem map_set {w : World} {b n : Nat} {es : Array MapEntry} (h : w.heap[b]? = some (.map es n)) {g t : Nat} {cs : Array Value} (hg : Blk w g t cs) (o : Nat) (v : Value) : (w.setCell ⟨g, o, none⟩ v).heap[b]? = some (.map es n) := by
  have hne : b ≠ g := fun e => by subst e; unfold Blk at hg; rw [hg] at h; cases h
  rw [← h]
  simp [World.setCell, Array.getElem?_modify, Ne.symm hne]
theorem map_sets : ∀ (vs : List Value) {w : World} {b n : Nat} {es : Array MapEntry} (_ : w.heap[b]? = some (.map es n)) {g t : Nat} {cs : Array Value} (_ : Blk w g t cs) (o : Nat), (w.setCells g o vs).heap[b]? = some (.map es n)
  | [], _, _, _, _, h, _, _, _, _, _ => h
  | v :: vs, _, _, _, _, h, _, _, _, hg, o => map_sets vs (map_set h hg o v) (hg.set_ o v) (o + 1)

set_option maxHeartbeats 4000000 in
set_option maxRecDepth 100000 in
theorem lay_any (P Q : PT) (a : Option Addr) (len cap : Nat) (ks : List Int) (w : World) (hbd : 0 ≤ P.1 ∧ P.1 ≤ 31) (hok : ksOk ks = true) (row : Row w a len ks) :
    Calls Tryz.prog 135 #[.agg (pl P).toArray, .agg (pl Q).toArray, .slice a len cap] w fun e w' => e = .returned (.agg (pl (withT P Q ks)).toArray) ∧ Below w.heap.size w w' := by
  have HL := Lib.hid row.1
  have hbig := row.2.1
  have HRow := Lib.hid row
  have HOk := Lib.hid hok
  clear row hok
  have KQ := Lib.hid (blkAt ((Blk.new (w.alloc (.cells (pl P).toArray 43)) 43 (pl Q).toArray).alloc (.cells (pl zT).toArray 43)) (g' := w.heap.size + 1) (by simp))
  go_enter Tryz.func135, Tryz.ntmps135
  go_wp2_with (refine wpList_load_mid rfl 43 (.tmp 4) rfl (w.heap.size + 1) 0 rfl (pl Q) _ (blk_whole KQ.out) Tryz.underlying43 rfl (pl_size Q) ?_)
  refine (layings_ex (pl Q) _).mono ?_
  rintro e w1 ⟨G, GM, rfl, hG, hm, kg, b1⟩
  have hG2 : w.heap.size + 1 + 1 + 1 ≤ G := by simpa using hG
  have KP := Lib.hid ((((Blk.new w 43 (pl P).toArray).alloc (.cells (pl Q).toArray 43)).alloc (.cells (pl zT).toArray 43)).keep b1)
  have KR := Lib.hid (blkAt ((Blk.new ((w.alloc (.cells (pl P).toArray 43)).alloc (.cells (pl Q).toArray 43)) 43 (pl zT).toArray).keep b1) (g' := w.heap.size + 1 + 1) (by simp))
  have HB := Lib.hid (bthen (balloc (balloc (alloc_below _ _) _) _) b1)
  have HM := Lib.hid hm
  have KG := Lib.hid kg
  clear b1 hm kg hG KQ
  go_wp2
  go_loopw [14] (fun i wr => ∃ j : Nat, ∃ P' : PT, j ≤ len ∧ i = .int .i64 j ∧ P' = withT P Q (ks.take j) ∧ (0 ≤ P'.1 ∧ P'.1 ≤ 31) ∧ Blk wr w.heap.size 43 (pl P').toArray ∧ Blk wr (w.heap.size + 1 + 1) 43 (pl zT).toArray ∧ Blk wr G 43 (pl Q).toArray ∧ wr.heap[GM]? = some (.map (laysE G) 5) ∧ Below w.heap.size w wr) (fun i _ => len - (intOf i).toNat)
  case atStart => exact ⟨0, P, by omega, rfl, rfl, hbd, KP.out, KR.out, KG.out, HM.out, HB.out⟩
  case round =>
    clear KP KR HB KG HM hbd
    obtain ⟨j, P', hj, rfl, hP, hbd, hp, hr, hg, hm, hb⟩ := hrel
    have HP := Lib.hid hP
    have KP := Lib.hid hp
    have KR := Lib.hid hr
    have KG := Lib.hid hg
    have HM := Lib.hid hm
    have HB := Lib.hid hb
    clear hP hp hr hg hm hb
    by_cases hlt : j < len
    · obtain ⟨b, off, k, rfl, hv, c0⟩ := row_at6 (row_keep HRow.out HB.out) hlt
      have hj0 : (0 : Int) ≤ (j : Int) := by omega
      have hj1 : (j : Int) < (len : Int) := by omega
      have hk : kOk k = true := List.all_eq_true.1 HOk.out k (List.mem_of_getElem? hv)
      have HK := Lib.hid hk
      have HW1 : Hid (withT P Q (ks.take (j + 1)) = (addK P'.1 k, (layT k P' Q).2)) := Lib.hid (by rw [with_succ hv, ← HP.out]; rfl)
      have HBd := Lib.hid (addK_bound hbd hk)
      have HA := Lib.hid (or_addK hbd hk)
      clear hv HP
      have hget := lays_get HM.out hk
      have hE := cl_enters hk
      have HC := Lib.hid (cl_any hk G P' Q)
      clear hk
      obtain ⟨Fn, hFn⟩ : ∃ Fn, Fn = clOf k := ⟨_, rfl⟩
      obtain ⟨cp, hcp⟩ : ∃ cp, cp = capOf G k := ⟨_, rfl⟩
      rw [← hFn, ← hcp] at hget
      rw [← hFn] at hE
      rw [← hFn, ← hcp] at HC
      clear hFn hcp
      unfold Enters at hE
      go_wp2_with (refine wpList_load_mid rfl 43 (.tmp 3) rfl w.heap.size 0 rfl (pl P') _ (blk_whole KP.out) Tryz.underlying43 rfl (pl_size P') ?_)
      refine (HC.out _ KG.out).mono ?_
      rintro e w3 ⟨rfl, b3⟩
      clear hget hE HC
      obtain ⟨P2, hP2⟩ : ∃ P2, P2 = layT k P' Q := ⟨_, rfl⟩
      have hH : P2.1 = P'.1 := by rw [hP2]; exact layT_has k P' Q
      rw [← hP2] at HW1
      rw [← hP2]
      clear hP2
      replace KP := Lib.hid (Blk.keep KP.out b3)
      replace KR := Lib.hid (Blk.keep KR.out b3)
      replace KG := Lib.hid (Blk.keep KG.out b3)
      replace HM := Lib.hid (map_keep HM.out b3)
      replace HB := Lib.hid (bthen HB.out b3)
      clear b3 c0
      rw [← hH] at HA HW1 HBd
      clear hH hbd
      have HS5 := Lib.hid (splice_all (X := pl P2) (Z := pl P') rfl ▸ blk_setCells (pl P2) KP.out (by simp [pl_len]))
      go_wp2_with (refine wpList_store_mid rfl 43 (.tmp 3) (.tmp 22) rfl w.heap.size 0 (pl P2).toArray rfl rfl (blk_there KP.out (by simp [pl_len])) (pl_size' _) (pl_one _) ?_)
      refine fin (fun W => Blk W w.heap.size 43 (pl P2).toArray ∧ Blk W (w.heap.size + 1 + 1) 43 (pl zT).toArray ∧ Blk W G 43 (pl Q).toArray ∧ W.heap[GM]? = some (.map (laysE G) 5) ∧ Below w.heap.size w W) ⟨HS5.out, blk_setFar _ KR.out (by omega), blk_setFar _ KG.out (by omega), map_sets _ HM.out KP.out 0, below_setCells _ HB.out (Nat.le_refl _)⟩ ?_
      clear KP KR KG HM HB HS5
      rintro W ⟨kp, kr, kg, hm, hb⟩
      have KP := Lib.hid kp
      have KR := Lib.hid kr
      have KG := Lib.hid kg
      have HM := Lib.hid hm
      have HB := Lib.hid hb
      clear kr kg hm hb
      have cp0 : W.cell? ⟨w.heap.size, 0, none⟩ = some (.int .i64 P2.1) := kp.cell 0
      have fp0 : W.frozen? ⟨w.heap.size, 0, none⟩ = false := kp.frozen 0
      clear kp
      have KPs : Hid (∀ v, Blk (W.setCell ⟨w.heap.size, 0, none⟩ (.int .i64 v)) w.heap.size 43 (pl (v, P2.2)).toArray) := Lib.hid (fun v => by have := KP.out.set_ 0 (.int .i64 v); simpa [pl_set] using this)
      go_wp2
      refine wp_region_held_drew (S := fun _ => True) (by kernel_rfl) trivial (fun hHeld => ?_)
      refine tk 0 hHeld ?_
      refine tk 2 hHeld ?_
      refine wpAnyH_ready (rs := [1, 3]) (by kernel_rfl) (by simp) ?_
      refine AllReadyH.cons rfl (fun K hK => ?_) (AllReadyH.cons rfl (fun K hK => ?_) AllReadyH.nil)
      · go_simp
        refine hK.out _ _ trivial (fun hHeld => ?_)
        clear hK K
        refine rd 3 (fun K hK => ?_)
        go_simp
        go_at_call 119
        refine (pbit_any HK.out _).mono ?_
        rintro e w6 ⟨rfl, rfl⟩
        go_wp2_with fail
        refine hK.out _ _ trivial (fun hHeld => ?_)
        clear hK K
        refine tk 4 hHeld ?_
        refine tk 5 hHeld ?_
        refine rd 6 (fun K hK => ?_)
        rw [HA.out]
        go_simp
        refine hK.out _ _ trivial (fun hHeld => ?_)
        clear hK K
        refine wpAnyH_done (by kernel_rfl) ?_ _
        clear hHeld
        refine fin (fun W => Blk W w.heap.size 43 (pl (addK P2.1 k, P2.2)).toArray ∧ Blk W (w.heap.size + 1 + 1) 43 (pl zT).toArray ∧ Blk W G 43 (pl Q).toArray ∧ W.heap[GM]? = some (.map (laysE G) 5) ∧ Below w.heap.size w W) ⟨Blk.drew (KPs.out _), Blk.drew (KR.out.far (p := ⟨w.heap.size, 0, none⟩) (by simp; omega) _), Blk.drew (KG.out.far (p := ⟨w.heap.size, 0, none⟩) (by simp; omega) _), map_set HM.out KP.out 0 _, bdrewn (HB.out.setCell (p := ⟨w.heap.size, 0, none⟩) (Nat.le_refl _) _)⟩ ?_
        clear KP KR KG HM HB KPs cp0 fp0
        rintro W2 ⟨kp, kr, kg, hm, hb⟩
        have KP := Lib.hid kp
        have KR := Lib.hid kr
        have KG := Lib.hid kg
        have HM := Lib.hid hm
        have HB := Lib.hid hb
        clear kp kr kg hm hb
        go_wp2
        go_roundw
        case rel => exact ⟨j + 1, (addK P2.1 k, P2.2), by omega, by go_num, HW1.out.symm, HBd.out, KP.out, KR.out, KG.out, HM.out, HB.out⟩
        case measure => simp [intOf] <;> omega
      · go_simp
        go_at_call 119
        refine (pbit_any HK.out _).mono ?_
        rintro e w6 ⟨rfl, rfl⟩
        go_wp2_with fail
        refine hK.out _ _ trivial (fun hHeld => ?_)
        clear hK K
        refine rd 1 (fun K hK => ?_)
        go_simp
        refine hK.out _ _ trivial (fun hHeld => ?_)
        clear hK K
        refine tk 4 hHeld ?_
        refine tk 5 hHeld ?_
        refine rd 6 (fun K hK => ?_)
        rw [HA.out]
        go_simp
        refine hK.out _ _ trivial (fun hHeld => ?_)
        clear hK K
        refine wpAnyH_done (by kernel_rfl) ?_ _
        clear hHeld
        refine fin (fun W => Blk W w.heap.size 43 (pl (addK P2.1 k, P2.2)).toArray ∧ Blk W (w.heap.size + 1 + 1) 43 (pl zT).toArray ∧ Blk W G 43 (pl Q).toArray ∧ W.heap[GM]? = some (.map (laysE G) 5) ∧ Below w.heap.size w W) ⟨Blk.drew (KPs.out _), Blk.drew (KR.out.far (p := ⟨w.heap.size, 0, none⟩) (by simp; omega) _), Blk.drew (KG.out.far (p := ⟨w.heap.size, 0, none⟩) (by simp; omega) _), map_set HM.out KP.out 0 _, bdrewn (HB.out.setCell (p := ⟨w.heap.size, 0, none⟩) (Nat.le_refl _) _)⟩ ?_
        clear KP KR KG HM HB KPs cp0 fp0
        rintro W2 ⟨kp, kr, kg, hm, hb⟩
        have KP := Lib.hid kp
        have KR := Lib.hid kr
        have KG := Lib.hid kg
        have HM := Lib.hid hm
        have HB := Lib.hid hb
        clear kp kr kg hm hb
        go_wp2
        go_roundw
        case rel => exact ⟨j + 1, (addK P2.1 k, P2.2), by omega, by go_num, HW1.out.symm, HBd.out, KP.out, KR.out, KG.out, HM.out, HB.out⟩
        case measure => simp [intOf] <;> omega
    · obtain rfl : j = len := by omega
      have et : ks.take j = ks := List.take_of_length_le (by rw [HL.out]; exact Nat.le_refl _)
      rw [et] at HP
      clear et hbd
      have HS5 := Lib.hid (splice_all (X := pl P') (Z := pl zT) rfl ▸ blk_setCells (pl P') KR.out (by simp [pl_len]))
      go_wp2_with (first | refine wpList_store_mid rfl 43 (.tmp 6) (.tmp 30) rfl (w.heap.size + 1 + 1) 0 (pl P').toArray rfl rfl (blk_there KR.out (by simp [pl_len])) (pl_size' _) (pl_one _) ?_ | refine wpList_load_mid rfl 43 (.tmp 3) rfl w.heap.size 0 rfl (pl P') _ (blk_whole KP.out) Tryz.underlying43 rfl (pl_size P') ?_)
      refine fin (fun W => Blk W (w.heap.size + 1 + 1) 43 (pl P').toArray ∧ Below w.heap.size w W) ⟨HS5.out, below_setCells _ HB.out (by omega)⟩ ?_
      rintro W ⟨kr, hb⟩
      have hl := run_loadVar_mid W (w.heap.size + 1 + 1) 0 43 (pl P') _ (blk_whole kr) Tryz.underlying43 rfl (pl_size P')
      simp only [Act.put, List.setIfInBounds_toArray, List.set_cons_zero, List.set_cons_succ]
      exact bodyPost_ret (v := .agg (pl P').toArray) (results_cell Tryz.results135 rfl hl) rfl ⟨by rw [HP.out], hb⟩

theorem bet_less (a b : Int) : bet lessB a b = min a b := by
  unfold bet lessB
  by_cases c : b < a
  · rw [if_pos (by simpa using c)]; omega
  · rw [if_neg (by simpa using c)]; omega
theorem pick_xyz_l (a : Option Addr) (vs : List V3) (w : World) (p0 p1 p2 : Int) (hp : pk lessB vs = (p0, p1, p2)) (row : VRow w a 2 vs) :
    Calls Tryz.prog 182 #[.slice a 2 2] w fun e w' => e = .returned (.agg #[.int .i64 p0, .int .i64 p1, .int .i64 p2]) ∧ Below w.heap.size w w' :=
  (least_any a 2 2 vs w (by omega) (by omega) row).mono fun _ _ ⟨he, hw⟩ => ⟨by rw [he, hp]; rfl, hw⟩
theorem okBox_as (B : Nat → Int) : okBox B = (rightV [(B 0, B 1, B 2), (B 3, B 4, B 5)] && (bet lessB (B 0) (B 3) == B 0 && bet lessB (B 1) (B 4) == B 1 && bet lessB (B 2) (B 5) == B 2)) := by
  have e : ∀ a b : Int, (bet lessB a b == a) = decide (a ≤ b) := fun a b => by
    rw [bet_less]
    by_cases c : a ≤ b
    · rw [show min a b = a by omega, decide_eq_true c]; simp
    · rw [decide_eq_false c]; simp; omega
  rw [e, e, e]
  unfold okBox boxTo boxTo boxTo boxTo
  cases rightV [(B 0, B 1, B 2), (B 3, B 4, B 5)] <;> simp [Bool.and_assoc]
theorem vright_b {a : Option Addr} {len cap : Nat} {vs : List V3} {w : World} {b : Bool} (hr : rightV vs = b) (row : VRow w a len vs) :
    Calls Tryz.prog 181 #[.slice a len cap] w fun e w' => e = .returned (.bool b) ∧ Below w.heap.size w w' :=
  (vright_any a len cap vs w row).mono fun _ _ ⟨he, hw⟩ => ⟨by rw [he, hr], hw⟩
set_option maxHeartbeats 2000000 in
theorem shright_any (a : Option Addr) (len cap : Nat) (Bs : List (Nat → Int)) (w : World) (row : BRow w a len Bs) :
    Calls Tryz.prog 160 #[.slice a len cap] w fun e w' => e = .returned (.bool (rightBx Bs)) ∧ Below w.heap.size w w' := by
  have HL := Lib.hid row.1
  have hbig := row.2.1
  have HRow := Lib.hid row
  clear row
  go_enter Tryz.func160, Tryz.ntmps160
  go_wp2
  go_loopw [4, 7] (fun _ i wr => ∃ k : Nat, k ≤ len ∧ i = .int .i64 k ∧ rightBx (Bs.take k) = true ∧ Below w.heap.size w wr) (fun _ i _ => len - (intOf i).toNat)
  case atStart => exact ⟨0, Nat.zero_le _, rfl, rfl, Below.refl _ _⟩
  case round =>
    obtain ⟨k, hk, rfl, hr, hb⟩ := hrel
    have HR := Lib.hid hr
    have HB := Lib.hid hb
    clear hr hb
    by_cases hlt : k < len
    · obtain ⟨b, off, B, rfl, hv, m0, m1, m2, m3, m4, m5⟩ := (brow_keep HRow.out HB.out).at_ hlt
      have HV := Lib.hid hv
      clear hv
      have HS : Hid (∀ w', Below (wr.alloc (.cells #[.int .i64 (B 0), .int .i64 (B 1), .int .i64 (B 2), .int .i64 (B 3), .int .i64 (B 4), .int .i64 (B 5)] 41)).heap.size (wr.alloc (.cells #[.int .i64 (B 0), .int .i64 (B 1), .int .i64 (B 2), .int .i64 (B 3), .int .i64 (B 4), .int .i64 (B 5)] 41)) w' → (w'.cell? ⟨wr.heap.size, 0, none⟩ = some (.int .i64 (B 0)) ∧ w'.cell? ⟨wr.heap.size, 1, none⟩ = some (.int .i64 (B 1)) ∧ w'.cell? ⟨wr.heap.size, 2, none⟩ = some (.int .i64 (B 2)) ∧ w'.cell? ⟨wr.heap.size, 3, none⟩ = some (.int .i64 (B 3)) ∧ w'.cell? ⟨wr.heap.size, 4, none⟩ = some (.int .i64 (B 4)) ∧ w'.cell? ⟨wr.heap.size, 5, none⟩ = some (.int .i64 (B 5)))) :=
        Lib.hid (fun w' hb => ⟨((Blk.new wr _ _).keep hb).cell 0, ((Blk.new wr _ _).keep hb).cell 1, ((Blk.new wr _ _).keep hb).cell 2, ((Blk.new wr _ _).keep hb).cell 3, ((Blk.new wr _ _).keep hb).cell 4, ((Blk.new wr _ _).keep hb).cell 5⟩)
      obtain ⟨p0, p1, p2, hp⟩ : ∃ p0 p1 p2, pk lessB [(B 0, B 1, B 2), (B 3, B 4, B 5)] = (p0, p1, p2) := ⟨_, _, _, rfl⟩
      have hok := okBox_as B
      obtain ⟨q0, hq⟩ : bet lessB (B 0) (B 3) = p0 ∧ bet lessB (B 1) (B 4) = p1 ∧ bet lessB (B 2) (B 5) = p2 := by
        have h3 : (bet lessB (B 0) (B 3), bet lessB (B 1) (B 4), bet lessB (B 2) (B 5)) = (p0, p1, p2) := hp
        simpa using h3
      rw [q0, hq.1, hq.2] at hok
      have HP := Lib.hid hp
      have HOk := Lib.hid hok
      clear hp hok q0 hq
      have heq := eqVec
      by_cases hr2 : rightV [(B 0, B 1, B 2), (B 3, B 4, B 5)] = true
      · have HR2 := Lib.hid hr2
        clear hr2
        by_cases hmn : (p0 == B 0 && p1 == B 1 && p2 == B 2) = true
        · go_wp2
          go_region_held3 (fun w' => w'.cell? ⟨wr.heap.size, 0, none⟩ = some (.int .i64 (B 0)) ∧ w'.cell? ⟨wr.heap.size, 1, none⟩ = some (.int .i64 (B 1)) ∧ w'.cell? ⟨wr.heap.size, 2, none⟩ = some (.int .i64 (B 2)) ∧ w'.cell? ⟨wr.heap.size, 3, none⟩ = some (.int .i64 (B 3)) ∧ w'.cell? ⟨wr.heap.size, 4, none⟩ = some (.int .i64 (B 4)) ∧ w'.cell? ⟨wr.heap.size, 5, none⟩ = some (.int .i64 (B 5)))
            (first | exact HS.out _ (bthen (balloc (bthen (alloc_below _ _) (bdrew c1)) _) c2) | exact HS.out _ (balloc (bthen (alloc_below _ _) (bdrew c1)) _) | exact HS.out _ (bthen (alloc_below _ _) (bdrew c1)) | exact HS.out _ (bdrewn (alloc_below _ _)) | exact HS.out _ (bdrewn (Below.refl _ _)))
            (first | (go_at_call 182; refine (pick_xyz_l _ _ _ p0 p1 p2 HP.out (vrow2 (Blk.new _ _ _))).mono ?_; rintro e w2 ⟨rfl, c2⟩) | (go_at_call 181; refine (vright_b HR2.out (vrow2 (Blk.drew (blkAt (Blk.new _ _ _) (by simp))))).mono ?_; rintro e w1 ⟨rfl, c1⟩))
          have B2 := Lib.hid (bthen (balloc (bthen (balloc (balloc HB.out _) _) (bdrew c1)) _) c2)
          have HG := Lib.hid (show okBox B = true by rw [HOk.out, HR2.out, hmn]; rfl)
          clear c1 c2 hmn m0 m1 m2 m3 m4 m5
          go_wp2
          go_roundw
          case rel => exact ⟨k + 1, by omega, by go_num, rightBx_succ HV.out HR.out HG.out, B2.out⟩
          case measure => simp [intOf] <;> omega
        · have hmn' : (p0 == B 0 && p1 == B 1 && p2 == B 2) = false := by simpa using hmn
          clear hmn
          go_wp2
          go_region_held3 (fun w' => w'.cell? ⟨wr.heap.size, 0, none⟩ = some (.int .i64 (B 0)) ∧ w'.cell? ⟨wr.heap.size, 1, none⟩ = some (.int .i64 (B 1)) ∧ w'.cell? ⟨wr.heap.size, 2, none⟩ = some (.int .i64 (B 2)) ∧ w'.cell? ⟨wr.heap.size, 3, none⟩ = some (.int .i64 (B 3)) ∧ w'.cell? ⟨wr.heap.size, 4, none⟩ = some (.int .i64 (B 4)) ∧ w'.cell? ⟨wr.heap.size, 5, none⟩ = some (.int .i64 (B 5)))
            (first | exact HS.out _ (bthen (balloc (bthen (alloc_below _ _) (bdrew c1)) _) c2) | exact HS.out _ (balloc (bthen (alloc_below _ _) (bdrew c1)) _) | exact HS.out _ (bthen (alloc_below _ _) (bdrew c1)) | exact HS.out _ (bdrewn (alloc_below _ _)) | exact HS.out _ (bdrewn (Below.refl _ _)))
            (first | (go_at_call 182; refine (pick_xyz_l _ _ _ p0 p1 p2 HP.out (vrow2 (Blk.new _ _ _))).mono ?_; rintro e w2 ⟨rfl, c2⟩) | (go_at_call 181; refine (vright_b HR2.out (vrow2 (Blk.drew (blkAt (Blk.new _ _ _) (by simp))))).mono ?_; rintro e w1 ⟨rfl, c1⟩))
          have B2 := Lib.hid (bthen (balloc (bthen (balloc (balloc HB.out _) _) (bdrew c1)) _) c2)
          have HG := Lib.hid (show okBox B = false by rw [HOk.out, HR2.out, hmn']; rfl)
          clear c1 c2 hmn' m0 m1 m2 m3 m4 m5
          go_wp2
          go_ret
          exact ⟨by rw [rightBx_bad HV.out HG.out]; rfl, B2.out⟩
      · have hr3 : rightV [(B 0, B 1, B 2), (B 3, B 4, B 5)] = false := by simpa using hr2
        have HR2 := Lib.hid hr3
        clear hr2 hr3
        go_wp2
        refine wp_region_held_drew (S := (fun w' => w'.cell? ⟨wr.heap.size, 0, none⟩ = some (.int .i64 (B 0)) ∧ w'.cell? ⟨wr.heap.size, 1, none⟩ = some (.int .i64 (B 1)) ∧ w'.cell? ⟨wr.heap.size, 2, none⟩ = some (.int .i64 (B 2)) ∧ w'.cell? ⟨wr.heap.size, 3, none⟩ = some (.int .i64 (B 3)) ∧ w'.cell? ⟨wr.heap.size, 4, none⟩ = some (.int .i64 (B 4)) ∧ w'.cell? ⟨wr.heap.size, 5, none⟩ = some (.int .i64 (B 5)))) (by kernel_rfl) (HS.out _ (bdrewn (Below.refl _ _))) (fun hHeld => ?_)
        refine wpAnyH_take (i := 0) (v := ?_) rfl (by kernel_rfl) (by kernel_rfl) (by kernel_rfl) (fun _ _ _ h => h) (Or.inl ⟨by rfl, ?_⟩) hHeld ?_
        rotate_left
        · rintro w ⟨s0, s1, s2, s3, s4, s5⟩
          go_simp
          with_reducible rfl
        simp only [Act.put, List.getElem_toArray, List.getElem_cons_zero, List.setIfInBounds_toArray, List.set_cons_zero, List.set_cons_succ]
        refine wpAnyH_take (i := 1) (v := ?_) rfl (by kernel_rfl) (by kernel_rfl) (by kernel_rfl) (fun _ _ _ h => h) (Or.inl ⟨by rfl, ?_⟩) hHeld ?_
        rotate_left
        · rintro w ⟨s0, s1, s2, s3, s4, s5⟩
          go_simp
          with_reducible rfl
        simp only [Act.put, List.getElem_toArray, List.getElem_cons_zero, List.getElem_cons_succ, List.setIfInBounds_toArray, List.set_cons_zero, List.set_cons_succ]
        refine wpAnyH_take (i := 2) (v := ?_) rfl (by kernel_rfl) (by kernel_rfl) (by kernel_rfl) (fun _ _ _ h => h) (Or.inl ⟨by rfl, ?_⟩) hHeld ?_
        rotate_left
        · rintro w ⟨s0, s1, s2, s3, s4, s5⟩
          go_simp
          with_reducible rfl
        simp only [Act.put, List.getElem_toArray, List.getElem_cons_zero, List.getElem_cons_succ, List.setIfInBounds_toArray, List.set_cons_zero, List.set_cons_succ]
        refine wpAnyH_take (i := 3) (v := ?_) rfl (by kernel_rfl) (by kernel_rfl) (by kernel_rfl) (fun _ _ _ h => h) (Or.inl ⟨by rfl, ?_⟩) hHeld ?_
        rotate_left
        · rintro w ⟨s0, s1, s2, s3, s4, s5⟩
          go_simp
          with_reducible rfl
        simp only [Act.put, List.getElem_toArray, List.getElem_cons_zero, List.getElem_cons_succ, List.setIfInBounds_toArray, List.set_cons_zero, List.set_cons_succ]
        refine rd 4 (fun K hK => ?_)
        go_simp
        refine hK.out _ _ (HS.out _ (bdrewn (alloc_below _ _))) (fun hHeld => ?_)
        clear hK K
        refine rd 5 (fun K hK => ?_)
        go_simp
        go_at_call 181
        refine (vright_b HR2.out (vrow2 (Blk.drew (blkAt (Blk.new _ _ _) (by simp))))).mono ?_
        rintro e w1 ⟨rfl, c1⟩
        go_wp2_with fail
        refine hK.out _ _ (HS.out _ (bthen (alloc_below _ _) (bdrew c1))) (fun hHeld => ?_)
        clear hK K
        refine tk 6 hHeld ?_
        refine tk 7 hHeld ?_
        refine tks 8 hHeld ?_
        refine tks 9 hHeld ?_
        refine tks 10 hHeld ?_
        refine tks 11 hHeld ?_
        refine tks 12 hHeld ?_
        refine tks 13 hHeld ?_
        refine tks 14 hHeld ?_
        refine tks 15 hHeld ?_
        refine tks 16 hHeld ?_
        refine tk 17 hHeld ?_
        refine wpAnyH_done (by kernel_rfl) ?_ _
        clear hHeld
        have B2 := Lib.hid (bthen (balloc (balloc HB.out _) _) (bdrew c1))
        have HG := Lib.hid (show okBox B = false by rw [HOk.out, HR2.out]; rfl)
        clear c1 m0 m1 m2 m3 m4 m5
        go_wp2
        go_ret
        exact ⟨by rw [rightBx_bad HV.out HG.out]; rfl, B2.out⟩
    · obtain rfl : k = len := by omega
      go_wp2
      go_ret
      exact ⟨by rw [show Bs = Bs.take k from (List.take_of_length_le (by rw [HL.out]; exact Nat.le_refl _)).symm, HR.out]; rfl, HB.out⟩

theorem brow1 {w : World} {g : Nat} {t : TypeId} {B : Nat → Int} (h : Blk w g t #[.int .i64 (B 0), .int .i64 (B 1), .int .i64 (B 2), .int .i64 (B 3), .int .i64 (B 4), .int .i64 (B 5)]) : BRow w (some ⟨g, 0, none⟩) 1 [B] := by
  refine ⟨rfl, by omega, Or.inr ⟨_, _, rfl, fun i hi j hj => ?_⟩⟩
  obtain rfl : i = 0 := by omega
  rcases lt6 hj with rfl | rfl | rfl | rfl | rfl | rfl
  · exact h.cell 0
  · exact h.cell 1
  · exact h.cell 2
  · exact h.cell 3
  · exact h.cell 4
  · exact h.cell 5
theorem shright1 {B : Nat → Int} {b : Bool} (ho : okBox B = b) {w : World} {g cap : Nat} {t : TypeId} (h : Blk w g t #[.int .i64 (B 0), .int .i64 (B 1), .int .i64 (B 2), .int .i64 (B 3), .int .i64 (B 4), .int .i64 (B 5)]) :
    Calls Tryz.prog 160 #[.slice (some ⟨g, 0, none⟩) 1 cap] w fun e w' => e = .returned (.bool b) ∧ Below w.heap.size w w' :=
  (shright_any _ 1 cap [B] w (brow1 h)).mono fun _ _ ⟨he, hw⟩ => ⟨by rw [he]; unfold rightBx; simp [ho], hw⟩
end Go.Proofs.YtkondkajpmafkaaGreat
