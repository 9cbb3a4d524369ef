/-
  3 texts in one file, each with its own heading.
-/
import Derived.Test.YtffbehcbokmpkaaML07
import Derived.Test.YtffbehcbokmpkaaML04
/-
  What the program's lay of layer 6 answers.
-/
namespace Go.Proofs.Ytffbehcbokmpkaa
open Go.RowKit

theorem layings_ex (X : List Value) (w : World) :
    Calls Try.prog 83 #[.agg X.toArray] w fun e w' => ∃ G GM, e = .returned (.map (some GM)) ∧ w.heap.size ≤ G ∧ w'.heap[GM]? = some (.map (laysE G) 5) ∧ Blk w' G 32 X.toArray ∧ Below w.heap.size w w' := by
  refine (layings_any X w).mono ?_
  rintro e w' ⟨rfl, rfl⟩
  refine ⟨w.heap.size, w.heap.size + 1, rfl, Nat.le_refl _, ?_, (Blk.new w 32 X.toArray).alloc _, balloc (alloc_below _ _) _⟩
  have h := heap_alloc_new (w.alloc (.cells X.toArray 32)) (.map (laysE w.heap.size) 5)
  rw [World.size_alloc] at h
  exact h
theorem map_keep {w w' : World} {b n : Nat} {es : Array MapEntry} (h : w.heap[b]? = some (.map es n)) (hb : Below w.heap.size w w') : w'.heap[b]? = some (.map es n) := (hb.block b (Array.getElem?_eq_some_iff.1 h).1).trans h
theorem map_set {w : World} {b n : Nat} {es : Array MapEntry} (h : w.heap[b]? = some (.map es n)) {g t : Nat} {cs : Array Value} (hg : Blk w g t cs) (o : Nat) (v : Value) : (w.setCell ⟨g, o, none⟩ v).heap[b]? = some (.map es n) := by
  have hne : b ≠ g := fun e => by subst e; unfold Blk at hg; rw [hg] at h; cases h
  rw [← h]
  simp [World.setCell, Array.getElem?_modify, Ne.symm hne]
theorem map_sets : ∀ (vs : List Value) {w : World} {b n : Nat} {es : Array MapEntry} (_ : w.heap[b]? = some (.map es n)) {g t : Nat} {cs : Array Value} (_ : Blk w g t cs) (o : Nat), (w.setCells g o vs).heap[b]? = some (.map es n)
  | [], _, _, _, _, h, _, _, _, _, _ => h
  | v :: vs, _, _, _, _, h, _, _, _, hg, o => map_sets vs (map_set h hg o v) (hg.set_ o v) (o + 1)

set_option maxHeartbeats 4000000 in
set_option maxRecDepth 100000 in
theorem lay_any (P Q : PT) (a : Option Addr) (len cap : Nat) (ks : List Int) (w : World) (hbd : 0 ≤ P.1 ∧ P.1 ≤ 31) (hok : ksOk ks = true) (row : Row w a len ks) :
    Calls Try.prog 79 #[.agg (pl P).toArray, .agg (pl Q).toArray, .slice a len cap] w fun e w' => e = .returned (.agg (pl (withT P Q ks)).toArray) ∧ Below w.heap.size w w' := by
  have HL := Lib.hid row.1
  have hbig := row.2.1
  have HRow := Lib.hid row
  have HOk := Lib.hid hok
  clear row hok
  have KQ := Lib.hid (blkAt ((Blk.new (w.alloc (.cells (pl P).toArray 32)) 32 (pl Q).toArray).alloc (.cells (pl zT).toArray 32)) (g' := w.heap.size + 1) (by simp))
  go_enter Try.func79, Try.ntmps79
  go_wp2_with (refine wpList_load_mid rfl 32 (.tmp 4) rfl (w.heap.size + 1) 0 rfl (pl Q) _ (blk_whole KQ.out) Try.underlying32 rfl (pl_size Q) ?_)
  refine (layings_ex (pl Q) _).mono ?_
  rintro e w1 ⟨G, GM, rfl, hG, hm, kg, b1⟩
  have hG2 : w.heap.size + 1 + 1 + 1 ≤ G := by simpa using hG
  have KP := Lib.hid ((((Blk.new w 32 (pl P).toArray).alloc (.cells (pl Q).toArray 32)).alloc (.cells (pl zT).toArray 32)).keep b1)
  have KR := Lib.hid (blkAt ((Blk.new ((w.alloc (.cells (pl P).toArray 32)).alloc (.cells (pl Q).toArray 32)) 32 (pl zT).toArray).keep b1) (g' := w.heap.size + 1 + 1) (by simp))
  have HB := Lib.hid (bthen (balloc (balloc (alloc_below _ _) _) _) b1)
  have HM := Lib.hid hm
  have KG := Lib.hid kg
  clear b1 hm kg hG KQ
  go_wp2
  go_loopw [14] (fun i wr => ∃ j : Nat, ∃ P' : PT, j ≤ len ∧ i = .int .i64 j ∧ P' = withT P Q (ks.take j) ∧ (0 ≤ P'.1 ∧ P'.1 ≤ 31) ∧ Blk wr w.heap.size 32 (pl P').toArray ∧ Blk wr (w.heap.size + 1 + 1) 32 (pl zT).toArray ∧ Blk wr G 32 (pl Q).toArray ∧ wr.heap[GM]? = some (.map (laysE G) 5) ∧ Below w.heap.size w wr) (fun i _ => len - (intOf i).toNat)
  case atStart => exact ⟨0, P, by omega, rfl, rfl, hbd, KP.out, KR.out, KG.out, HM.out, HB.out⟩
  case round =>
    clear KP KR HB KG HM hbd
    obtain ⟨j, P', hj, rfl, hP, hbd, hp, hr, hg, hm, hb⟩ := hrel
    have HP := Lib.hid hP
    have KP := Lib.hid hp
    have KR := Lib.hid hr
    have KG := Lib.hid hg
    have HM := Lib.hid hm
    have HB := Lib.hid hb
    clear hP hp hr hg hm hb
    by_cases hlt : j < len
    · obtain ⟨b, off, k, rfl, hv, c0⟩ := row_at6 (row_keep HRow.out HB.out) hlt
      have hj0 : (0 : Int) ≤ (j : Int) := by omega
      have hj1 : (j : Int) < (len : Int) := by omega
      have hk : kOk k = true := List.all_eq_true.1 HOk.out k (List.mem_of_getElem? hv)
      have HK := Lib.hid hk
      have HW1 : Hid (withT P Q (ks.take (j + 1)) = (addK P'.1 k, (layT k P' Q).2)) := Lib.hid (by rw [with_succ hv, ← HP.out]; rfl)
      have HBd := Lib.hid (addK_bound hbd hk)
      have HA := Lib.hid (or_addK hbd hk)
      clear hv HP
      have hget := lays_get HM.out hk
      have hE := cl_enters hk
      have HC := Lib.hid (cl_any hk G P' Q)
      clear hk
      obtain ⟨Fn, hFn⟩ : ∃ Fn, Fn = clOf k := ⟨_, rfl⟩
      obtain ⟨cp, hcp⟩ : ∃ cp, cp = capOf G k := ⟨_, rfl⟩
      rw [← hFn, ← hcp] at hget
      rw [← hFn] at hE
      rw [← hFn, ← hcp] at HC
      clear hFn hcp
      unfold Enters at hE
      go_wp2_with (refine wpList_load_mid rfl 32 (.tmp 3) rfl w.heap.size 0 rfl (pl P') _ (blk_whole KP.out) Try.underlying32 rfl (pl_size P') ?_)
      refine (HC.out _ KG.out).mono ?_
      rintro e w3 ⟨rfl, b3⟩
      clear hget hE HC
      obtain ⟨P2, hP2⟩ : ∃ P2, P2 = layT k P' Q := ⟨_, rfl⟩
      have hH : P2.1 = P'.1 := by rw [hP2]; exact layT_has k P' Q
      rw [← hP2] at HW1
      rw [← hP2]
      clear hP2
      replace KP := Lib.hid (Blk.keep KP.out b3)
      replace KR := Lib.hid (Blk.keep KR.out b3)
      replace KG := Lib.hid (Blk.keep KG.out b3)
      replace HM := Lib.hid (map_keep HM.out b3)
      replace HB := Lib.hid (bthen HB.out b3)
      clear b3 c0
      rw [← hH] at HA HW1 HBd
      clear hH hbd
      have HS5 := Lib.hid (splice_all (X := pl P2) (Z := pl P') rfl ▸ blk_setCells (pl P2) KP.out (by simp [pl_len]))
      go_wp2_with (refine wpList_store_mid rfl 32 (.tmp 3) (.tmp 22) rfl w.heap.size 0 (pl P2).toArray rfl rfl (blk_there KP.out (by simp [pl_len])) (pl_size' _) (pl_one _) ?_)
      refine fin (fun W => Blk W w.heap.size 32 (pl P2).toArray ∧ Blk W (w.heap.size + 1 + 1) 32 (pl zT).toArray ∧ Blk W G 32 (pl Q).toArray ∧ W.heap[GM]? = some (.map (laysE G) 5) ∧ Below w.heap.size w W) ⟨HS5.out, blk_setFar _ KR.out (by omega), blk_setFar _ KG.out (by omega), map_sets _ HM.out KP.out 0, below_setCells _ HB.out (Nat.le_refl _)⟩ ?_
      clear KP KR KG HM HB HS5
      rintro W ⟨kp, kr, kg, hm, hb⟩
      have KP := Lib.hid kp
      have KR := Lib.hid kr
      have KG := Lib.hid kg
      have HM := Lib.hid hm
      have HB := Lib.hid hb
      clear kr kg hm hb
      have cp0 : W.cell? ⟨w.heap.size, 0, none⟩ = some (.int .i64 P2.1) := kp.cell 0
      have fp0 : W.frozen? ⟨w.heap.size, 0, none⟩ = false := kp.frozen 0
      clear kp
      have KPs : Hid (∀ v, Blk (W.setCell ⟨w.heap.size, 0, none⟩ (.int .i64 v)) w.heap.size 32 (pl (v, P2.2)).toArray) := Lib.hid (fun v => by have := KP.out.set_ 0 (.int .i64 v); simpa [pl_set] using this)
      go_wp2
      refine wp_region_held_drew (S := fun _ => True) (by kernel_rfl) trivial (fun hHeld => ?_)
      refine tk 0 hHeld ?_
      refine tk 2 hHeld ?_
      refine wpAnyH_ready (rs := [1, 3]) (by kernel_rfl) (by simp) ?_
      refine AllReadyH.cons rfl (fun K hK => ?_) (AllReadyH.cons rfl (fun K hK => ?_) AllReadyH.nil)
      · go_simp
        refine hK.out _ _ trivial (fun hHeld => ?_)
        clear hK K
        refine rd 3 (fun K hK => ?_)
        go_simp
        go_at_call 66
        refine (pbit_any HK.out _).mono ?_
        rintro e w6 ⟨rfl, rfl⟩
        go_wp2_with fail
        refine hK.out _ _ trivial (fun hHeld => ?_)
        clear hK K
        refine tk 4 hHeld ?_
        refine tk 5 hHeld ?_
        refine rd 6 (fun K hK => ?_)
        rw [HA.out]
        go_simp
        refine hK.out _ _ trivial (fun hHeld => ?_)
        clear hK K
        refine wpAnyH_done (by kernel_rfl) ?_ _
        clear hHeld
        refine fin (fun W => Blk W w.heap.size 32 (pl (addK P2.1 k, P2.2)).toArray ∧ Blk W (w.heap.size + 1 + 1) 32 (pl zT).toArray ∧ Blk W G 32 (pl Q).toArray ∧ W.heap[GM]? = some (.map (laysE G) 5) ∧ Below w.heap.size w W) ⟨Blk.drew (KPs.out _), Blk.drew (KR.out.far (p := ⟨w.heap.size, 0, none⟩) (by simp; omega) _), Blk.drew (KG.out.far (p := ⟨w.heap.size, 0, none⟩) (by simp; omega) _), map_set HM.out KP.out 0 _, bdrewn (HB.out.setCell (p := ⟨w.heap.size, 0, none⟩) (Nat.le_refl _) _)⟩ ?_
        clear KP KR KG HM HB KPs cp0 fp0
        rintro W2 ⟨kp, kr, kg, hm, hb⟩
        have KP := Lib.hid kp
        have KR := Lib.hid kr
        have KG := Lib.hid kg
        have HM := Lib.hid hm
        have HB := Lib.hid hb
        clear kp kr kg hm hb
        go_wp2
        go_roundw
        case rel => exact ⟨j + 1, (addK P2.1 k, P2.2), by omega, by go_num, HW1.out.symm, HBd.out, KP.out, KR.out, KG.out, HM.out, HB.out⟩
        case measure => simp [intOf] <;> omega
      · go_simp
        go_at_call 66
        refine (pbit_any HK.out _).mono ?_
        rintro e w6 ⟨rfl, rfl⟩
        go_wp2_with fail
        refine hK.out _ _ trivial (fun hHeld => ?_)
        clear hK K
        refine rd 1 (fun K hK => ?_)
        go_simp
        refine hK.out _ _ trivial (fun hHeld => ?_)
        clear hK K
        refine tk 4 hHeld ?_
        refine tk 5 hHeld ?_
        refine rd 6 (fun K hK => ?_)
        rw [HA.out]
        go_simp
        refine hK.out _ _ trivial (fun hHeld => ?_)
        clear hK K
        refine wpAnyH_done (by kernel_rfl) ?_ _
        clear hHeld
        refine fin (fun W => Blk W w.heap.size 32 (pl (addK P2.1 k, P2.2)).toArray ∧ Blk W (w.heap.size + 1 + 1) 32 (pl zT).toArray ∧ Blk W G 32 (pl Q).toArray ∧ W.heap[GM]? = some (.map (laysE G) 5) ∧ Below w.heap.size w W) ⟨Blk.drew (KPs.out _), Blk.drew (KR.out.far (p := ⟨w.heap.size, 0, none⟩) (by simp; omega) _), Blk.drew (KG.out.far (p := ⟨w.heap.size, 0, none⟩) (by simp; omega) _), map_set HM.out KP.out 0 _, bdrewn (HB.out.setCell (p := ⟨w.heap.size, 0, none⟩) (Nat.le_refl _) _)⟩ ?_
        clear KP KR KG HM HB KPs cp0 fp0
        rintro W2 ⟨kp, kr, kg, hm, hb⟩
        have KP := Lib.hid kp
        have KR := Lib.hid kr
        have KG := Lib.hid kg
        have HM := Lib.hid hm
        have HB := Lib.hid hb
        clear kp kr kg hm hb
        go_wp2
        go_roundw
        case rel => exact ⟨j + 1, (addK P2.1 k, P2.2), by omega, by go_num, HW1.out.symm, HBd.out, KP.out, KR.out, KG.out, HM.out, HB.out⟩
        case measure => simp [intOf] <;> omega
    · obtain rfl : j = len := by omega
      have et : ks.take j = ks := List.take_of_length_le (by rw [HL.out]; exact Nat.le_refl _)
      rw [et] at HP
      clear et hbd
      have HS5 := Lib.hid (splice_all (X := pl P') (Z := pl zT) rfl ▸ blk_setCells (pl P') KR.out (by simp [pl_len]))
      go_wp2_with (first | refine wpList_store_mid rfl 32 (.tmp 6) (.tmp 30) rfl (w.heap.size + 1 + 1) 0 (pl P').toArray rfl rfl (blk_there KR.out (by simp [pl_len])) (pl_size' _) (pl_one _) ?_ | refine wpList_load_mid rfl 32 (.tmp 3) rfl w.heap.size 0 rfl (pl P') _ (blk_whole KP.out) Try.underlying32 rfl (pl_size P') ?_)
      refine fin (fun W => Blk W (w.heap.size + 1 + 1) 32 (pl P').toArray ∧ Below w.heap.size w W) ⟨HS5.out, below_setCells _ HB.out (by omega)⟩ ?_
      rintro W ⟨kr, hb⟩
      have hl := run_loadVar_mid W (w.heap.size + 1 + 1) 0 32 (pl P') _ (blk_whole kr) Try.underlying32 rfl (pl_size P')
      simp only [Act.put, List.setIfInBounds_toArray, List.set_cons_zero, List.set_cons_succ]
      exact bodyPost_ret (v := .agg (pl P').toArray) (results_cell Try.results79 rfl hl) rfl ⟨by rw [HP.out], hb⟩

def prP (N V : Nat → Int) (j : Nat) : Int := mulV (N j) (V j)
def prPE (N V : Nat → Int) (j : Nat) : Int := mulE (N j) (V j)
def prE (N V : Nat → Int) : Int := first3 (prPE N V 0) (prPE N V 1) (prPE N V 2)
def prV (N V : Nat → Int) (j : Nat) : Int := gate (prE N V) (prP N V j)

set_option maxHeartbeats 1000000 in
theorem products_any (N V : Nat → Int) (w : World) :
    Calls Try.prog 53 #[.agg #[.int .i64 (N 0), .int .i64 (N 1), .int .i64 (N 2)], .agg #[.int .i64 (V 0), .int .i64 (V 1), .int .i64 (V 2)]] w fun e w' => e = .returned (.tuple #[.agg #[.int .i64 (prV N V 0), .int .i64 (prV N V 1), .int .i64 (prV N V 2)], .int .i64 (prE N V)]) ∧ Below w.heap.size w w' := by
  go_enter Try.func53, Try.ntmps53
  go_wp2
  go_loopw [10] (fun i wr => ∃ k : Nat, k ≤ 3 ∧ i = .int .i64 k ∧ (∀ j, j < k → prPE N V j = 0) ∧ wr.rowIs (w.heap.size + 3) 28 3 (laidTo (prP N V) k) ∧ Blk wr w.heap.size 28 #[.int .i64 (N 0), .int .i64 (N 1), .int .i64 (N 2)] ∧ Blk wr (w.heap.size + 1) 28 #[.int .i64 (V 0), .int .i64 (V 1), .int .i64 (V 2)] ∧ Blk wr (w.heap.size + 2) 28 #[.int .i64 0, .int .i64 0, .int .i64 0] ∧ Below w.heap.size w wr) (fun i _ => 3 - (intOf i).toNat)
  case atStart => exact ⟨0, by omega, rfl, fun j hj => by omega, rowIs_at (laid_start _ _ _) (by simp), (((Blk.new w _ _).alloc _).alloc _).alloc _, (blkAt (((Blk.new (w.alloc _) _ _).alloc _).alloc _) (by simp)), (blkAt ((Blk.new ((w.alloc _).alloc _) _ _).alloc _) (by simp)), balloc (balloc (balloc (alloc_below _ _) _) _) _⟩
  case round =>
    obtain ⟨k, hk, rfl, hz, hrow, hbn, hbv, hres, hb⟩ := hrel
    have HZ := Lib.hid hz
    have HRow := Lib.hid hrow
    have HN := Lib.hid hbn
    have HV := Lib.hid hbv
    have HRes := Lib.hid hres
    have HB := Lib.hid hb
    clear hz hrow hbn hbv hres hb
    by_cases hlt : k < 3
    · have cx := Blk.atv HN.out hlt
      have cy := Blk.atv HV.out hlt
      obtain ⟨x, hx⟩ : ∃ x, x = N k := ⟨_, rfl⟩
      obtain ⟨y, hy⟩ : ∃ y, y = V k := ⟨_, rfl⟩
      have HD : Hid (prP N V k = mulV x y ∧ prPE N V k = mulE x y) := Lib.hid (by unfold prP prPE; rw [hx, hy]; exact ⟨rfl, rfl⟩)
      rw [← hx] at cx
      rw [← hy] at cy
      clear hx hy
      have hk0 : (0 : Int) ≤ (k : Int) := by omega
      have hk3 : (k : Int) < 3 := by omega
      go_wp2
      go_region_held3 (fun w' => w'.cell? ⟨w.heap.size, k, none⟩ = some (.int .i64 x) ∧ w'.cell? ⟨w.heap.size + 1, k, none⟩ = some (.int .i64 y)) (first | exact ⟨cell_keepD b2 cx, cell_keepD b2 cy⟩ | go_keep)
        (first | (go_at_call 69; refine (mul_any _ _ _).mono ?_; rintro e w2 ⟨rfl, b2⟩))
      have B2 := Lib.hid (bdrew b2)
      clear b2 cx cy
      have HRow2 := Lib.hid (HRow.out.of_block (B2.out.block _ HRow.out.lt))
      have HN2 := Lib.hid (Blk.keep HN.out B2.out)
      have HV2 := Lib.hid (Blk.keep HV.out B2.out)
      have HRes2 := Lib.hid (Blk.keep HRes.out B2.out)
      have HB2 := Lib.hid (bthen HB.out B2.out)
      clear B2 HRow HN HV HRes HB
      by_cases he : mulE x y = 0
      · have HEk := Lib.hid he
        have he' : (mulE x y != 0) = false := by rw [he]; rfl
        clear he
        have rc := HRow2.out.cell (i := k) (by omega)
        have rf := HRow2.out.frozen k
        unfold laidTo at rc
        simp only [Nat.lt_irrefl, if_false] at rc
        go_wp2
        go_roundw
        case rel => exact ⟨k + 1, by omega, by go_num, err_step HZ.out (by rw [HD.out.2]; exact HEk.out), (HRow2.out.set k _).congr (fun i _ => by rw [← HD.out.1]; exact laid_step _ k i), HN2.out.far (by simp; omega) _, HV2.out.far (by simp) _, HRes2.out.far (by simp) _, HB2.out.setCell (by simp; omega) _⟩
        case measure => simp [intOf]; omega
      · have HEk := Lib.hid he
        have he' : (mulE x y != 0) = true := by simpa using he
        clear he
        obtain ⟨z0, z1, z2, g0, g1, g2⟩ := blk3 HRes2.out
        go_wp2
        have e1 : prE N V = mulE x y := by
          rw [← HD.out.2]
          exact first3_at (e := prPE N V) hlt HZ.out (by rw [HD.out.2]; exact HEk.out)
        have e2 : ∀ j, prV N V j = 0 := fun j => by unfold prV gate; rw [e1, if_neg HEk.out]
        exact bodyPost_ret (v := .tuple #[.agg #[.int .i64 0, .int .i64 0, .int .i64 0], .int .i64 (mulE x y)]) (by simp [results, Try.results53, go_sem, z0, z1, z2]) rfl ⟨by rw [e1, e2, e2, e2], bset3 HB2.out (by omega)⟩
    · obtain rfl : k = 3 := by omega
      have e1 : prE N V = 0 := first3_none (e := prPE N V) HZ.out
      have HE := Lib.hid e1
      clear e1
      have o0 : wr.cell? ⟨w.heap.size + 3, 0, none⟩ = some (.int .i64 (prP N V 0)) := HRow.out.cell (i := 0) (by omega)
      have o1 : wr.cell? ⟨w.heap.size + 3, 1, none⟩ = some (.int .i64 (prP N V 1)) := HRow.out.cell (i := 1) (by omega)
      have o2 : wr.cell? ⟨w.heap.size + 3, 2, none⟩ = some (.int .i64 (prP N V 2)) := HRow.out.cell (i := 2) (by omega)
      obtain ⟨z0, z1, z2, g0, g1, g2⟩ := blk3 HRes.out
      go_wp2
      have e2 : ∀ j, prV N V j = prP N V j := fun j => by unfold prV; rw [HE.out]; rfl
      exact bodyPost_ret (v := .tuple #[.agg #[.int .i64 (prP N V 0), .int .i64 (prP N V 1), .int .i64 (prP N V 2)], .int .i64 0]) (by simp [results, Try.results53, go_sem, z0, z1, z2]) rfl ⟨by rw [HE.out, e2, e2, e2], bset3 HB.out (by omega)⟩

set_option maxHeartbeats 1000000 in
theorem total_any (x y z t : Int) (w : World) :
    Calls Try.prog 54 #[.agg #[.int .i64 x, .int .i64 y, .int .i64 z], .int .i64 t] w fun e w' => e = .returned (.tuple #[.int .i64 (addV [x, y, z, t]), .int .i64 (addE [x, y, z, t])]) ∧ Below w.heap.size w w' := by
  go_enter Try.func54, Try.ntmps54
  go_wp2_with fail
  refine (add_any _ _ _ [x, y, z, t] _ (row4 (P := fun j => [x, y, z, t].getD j 0) (blkAt (Blk.new _ _ _) (by simp)))).mono ?_
  rintro e w1 ⟨rfl, b1⟩
  go_wp2
  go_ret2
  exact ⟨rfl, bthen (balloc (alloc_below _ _) _) b1⟩

def spM (M : Nat → Int) (r k : Nat) : Int := M (4 * r + k)

set_option maxHeartbeats 2000000 in
theorem split_any (M : Nat → Int) (r : Nat) (w : World) (hr : r < 3) :
    Calls Try.prog 35 #[.agg #[.int .i64 (M 0), .int .i64 (M 1), .int .i64 (M 2), .int .i64 (M 3), .int .i64 (M 4), .int .i64 (M 5), .int .i64 (M 6), .int .i64 (M 7), .int .i64 (M 8), .int .i64 (M 9), .int .i64 (M 10), .int .i64 (M 11)], .int .i64 r] w fun e w' => e = .returned (.agg #[.int .i64 (spM M r 0), .int .i64 (spM M r 1), .int .i64 (spM M r 2), .int .i64 (spM M r 3)]) ∧ Below w.heap.size w w' := by
  obtain ⟨n0, hn0⟩ : ∃ n, n = 4 * r := ⟨_, rfl⟩
  obtain ⟨n1, hn1⟩ : ∃ n, n = 4 * r + 1 := ⟨_, rfl⟩
  obtain ⟨n2, hn2⟩ : ∃ n, n = 4 * r + 2 := ⟨_, rfl⟩
  obtain ⟨n3, hn3⟩ : ∃ n, n = 4 * r + 3 := ⟨_, rfl⟩
  have hw0 : IntKind.i64.wrap (4 * (r : Int)) = (n0 : Int) := by rw [show 4 * (r : Int) = (n0 : Int) by omega]; exact IntWalk.i64_in _ (by omega)
  have hw1 : IntKind.i64.wrap ((n0 : Int) + 1) = (n1 : Int) := by rw [show (n0 : Int) + 1 = (n1 : Int) by omega]; exact IntWalk.i64_in _ (by omega)
  have hw2 : IntKind.i64.wrap ((n0 : Int) + 2) = (n2 : Int) := by rw [show (n0 : Int) + 2 = (n2 : Int) by omega]; exact IntWalk.i64_in _ (by omega)
  have hw3 : IntKind.i64.wrap ((n0 : Int) + 3) = (n3 : Int) := by rw [show (n0 : Int) + 3 = (n3 : Int) by omega]; exact IntWalk.i64_in _ (by omega)
  have K := fun o => (Blk.new w 26 #[.int .i64 (M 0), .int .i64 (M 1), .int .i64 (M 2), .int .i64 (M 3), .int .i64 (M 4), .int .i64 (M 5), .int .i64 (M 6), .int .i64 (M 7), .int .i64 (M 8), .int .i64 (M 9), .int .i64 (M 10), .int .i64 (M 11)]).alloc o
  have c0 := fun o => Blk.at12 (K o) (k := n0) (by omega)
  have c1 := fun o => Blk.at12 (K o) (k := n1) (by omega)
  have c2 := fun o => Blk.at12 (K o) (k := n2) (by omega)
  have c3 := fun o => Blk.at12 (K o) (k := n3) (by omega)
  obtain ⟨x, hx⟩ : ∃ x, x = M n0 := ⟨_, rfl⟩
  obtain ⟨y, hy⟩ : ∃ y, y = M n1 := ⟨_, rfl⟩
  obtain ⟨z, hz⟩ : ∃ z, z = M n2 := ⟨_, rfl⟩
  obtain ⟨l, hl⟩ : ∃ l, l = M n3 := ⟨_, rfl⟩
  have HD : Hid (spM M r 0 = x ∧ spM M r 1 = y ∧ spM M r 2 = z ∧ spM M r 3 = l) := Lib.hid (by unfold spM; rw [hx, hy, hz, hl, hn0, hn1, hn2, hn3]; exact ⟨rfl, rfl, rfl, rfl⟩)
  rw [← hx] at c0
  rw [← hy] at c1
  rw [← hz] at c2
  rw [← hl] at c3
  have b00 : (0 : Int) ≤ (n0 : Int) := by omega
  have b01 : (n0 : Int) < 12 := by omega
  have b10 : (0 : Int) ≤ (n1 : Int) := by omega
  have b11 : (n1 : Int) < 12 := by omega
  have b20 : (0 : Int) ≤ (n2 : Int) := by omega
  have b21 : (n2 : Int) < 12 := by omega
  have b30 : (0 : Int) ≤ (n3 : Int) := by omega
  have b31 : (n3 : Int) < 12 := by omega
  have hr0 : (0 : Int) ≤ (r : Int) := by omega
  have HC := Lib.hid (fun o => And.intro (c0 o) (And.intro (c1 o) (And.intro (c2 o) (c3 o))))
  clear hx hy hz hl hn0 hn1 hn2 hn3 K c0 c1 c2 c3
  go_enter Try.func35, Try.ntmps35
  go_wp2
  go_region_held3 (fun w' => w'.cell? ⟨w.heap.size, n0, none⟩ = some (.int .i64 x) ∧ w'.cell? ⟨w.heap.size, n1, none⟩ = some (.int .i64 y) ∧ w'.cell? ⟨w.heap.size, n2, none⟩ = some (.int .i64 z) ∧ w'.cell? ⟨w.heap.size, n3, none⟩ = some (.int .i64 l)) (first | exact HC.out _)
    (first | fail)
  go_wp2
  exact bodyPost_ret (v := .agg #[.int .i64 x, .int .i64 y, .int .i64 z, .int .i64 l]) (by simp [results, Try.results35, go_sem]) rfl ⟨by rw [HD.out.1, HD.out.2.1, HD.out.2.2.1, HD.out.2.2.2], bdrewn (balloc (alloc_below _ _) _)⟩

theorem fitE_six {x : Int} (h : fitE x ≠ 0) : fitE x = 6 := by
  unfold fitE at h ⊢
  by_cases c : okB x = true
  · rw [if_pos c] at h; exact absurd rfl h
  · rw [if_neg c]
theorem fitV_ok (x : Int) : okB (fitV x) = true := by
  unfold fitV
  by_cases c : okB x = true
  · rw [if_pos c]; exact c
  · rw [if_neg c]; decide
theorem mulE_six {x y : Int} (hx : okB x = true) (hy : okB y = true) (h : mulE x y ≠ 0) : mulE x y = 6 := by
  have ho : (okB x && okB y) = true := by rw [hx, hy]; rfl
  rw [(mul_yes ho).2] at h ⊢
  exact fitE_six h
theorem mulV_ok (x y : Int) : okB (mulV x y) = true := by
  by_cases ho : (okB x && okB y) = true
  · rw [(mul_yes ho).1]; exact fitV_ok _
  · rw [(mul_no (by simpa using ho)).1]; decide
theorem first3_ne {e : Nat → Int} (h : first3 (e 0) (e 1) (e 2) ≠ 0) : ∃ k, k < 3 ∧ e k ≠ 0 ∧ first3 (e 0) (e 1) (e 2) = e k := by
  unfold first3 at h ⊢
  by_cases h0 : e 0 = 0
  · rw [if_pos h0] at h ⊢
    by_cases h1 : e 1 = 0
    · rw [if_pos h1] at h ⊢
      exact ⟨2, by omega, h, rfl⟩
    · rw [if_neg h1]; exact ⟨1, by omega, h1, rfl⟩
  · rw [if_neg h0]; exact ⟨0, by omega, h0, rfl⟩
theorem first3_zero {e : Nat → Int} (h : first3 (e 0) (e 1) (e 2) = 0) : ∀ k, k < 3 → e k = 0 := by
  unfold first3 at h
  by_cases h0 : e 0 = 0
  · rw [if_pos h0] at h
    by_cases h1 : e 1 = 0
    · rw [if_pos h1] at h
      intro k hk
      obtain rfl | rfl | rfl : k = 0 ∨ k = 1 ∨ k = 2 := by omega
      · exact h0
      · exact h1
      · exact h
    · rw [if_neg h1] at h; exact absurd h h1
  · rw [if_neg h0] at h; exact absurd h h0
theorem okPlane_at {P : Nat → Int} (h : okPlane P = true) {k : Nat} (hk : k < 4) : okB (P k) = true := by
  unfold okPlane rightB at h
  have h4 : okB (P 0) = true ∧ okB (P 1) = true ∧ okB (P 2) = true ∧ okB (P 3) = true := by simpa using h
  obtain rfl | rfl | rfl | rfl : k = 0 ∨ k = 1 ∨ k = 2 ∨ k = 3 := by omega
  · exact h4.1
  · exact h4.2.1
  · exact h4.2.2.1
  · exact h4.2.2.2
def upB (B : Nat → Int) (j : Nat) : Int := B (3 + j)

theorem lo_bad {P B : Nat → Int} {t : Int} (h : okPlane P = true) (h' : okBox B = true) (he : prE P B ≠ 0) : prE P B = 6 ∧ enE P B t = 6 := by
  obtain ⟨k, hk, hn, hq⟩ := first3_ne (e := prPE P B) he
  refine ⟨hq.trans (mulE_six (okPlane_at h (by omega)) (okBox_at h' (by omega)) hn), enE_bad (k := k) ?_ hk⟩
  unfold enBad
  have : (mulE (P k) (B k) != 0) = true := by simpa using (show mulE (P k) (B k) ≠ 0 from hn)
  rw [this]; rfl
theorem hi_bad {P B : Nat → Int} {t : Int} (h : okPlane P = true) (h' : okBox B = true) (he : prE P (upB B) ≠ 0) : prE P (upB B) = 6 ∧ enE P B t = 6 := by
  obtain ⟨k, hk, hn, hq⟩ := first3_ne (e := prPE P (upB B)) he
  refine ⟨hq.trans (mulE_six (okPlane_at h (by omega)) (okBox_at h' (by omega)) hn), enE_bad (k := k) ?_ hk⟩
  unfold enBad
  have : (mulE (P k) (B (3 + k)) != 0) = true := by simpa using (show mulE (P k) (B (3 + k)) ≠ 0 from hn)
  rw [this, Bool.or_true]
theorem bet_less (a b : Int) : bet lessB a b = min a b := by
  unfold bet lessB
  by_cases c : b < a
  · rw [if_pos (by simpa using c)]; omega
  · rw [if_neg (by simpa using c)]; omega
theorem bet_more (a b : Int) : bet moreB a b = max a b := by
  unfold bet moreB
  by_cases c : b > a
  · rw [if_pos (by simpa using c)]; omega
  · rw [if_neg (by simpa using c)]; omega
theorem add_turn (x y z t : Int) : addV [x, y, z, t] = addV [t, x, y, z] ∧ addE [x, y, z, t] = addE [t, x, y, z] := by
  have hs : [x, y, z, t].sum = [t, x, y, z].sum := by simp only [List.sum_cons, List.sum_nil]; omega
  have hr : addOk [x, y, z, t] = addOk [t, x, y, z] := by
    unfold addOk rightB
    simp only [List.all_cons, List.all_nil, List.length_cons, List.length_nil]
    cases okB x <;> cases okB y <;> cases okB z <;> cases okB t <;> rfl
  unfold addV addE
  rw [hs, hr]
  exact ⟨rfl, rfl⟩
theorem add_six {x y z t : Int} (hx : okB x = true) (hy : okB y = true) (hz : okB z = true) (ht : okB t = true) (h : addE [x, y, z, t] ≠ 0) : addE [x, y, z, t] = 6 := by
  have ho : addOk [x, y, z, t] = true := addOk_yes rfl (by simp) (by unfold rightB; simp [hx, hy, hz, ht])
  rw [addE_yes ho] at h ⊢
  exact fitE_six h
theorem okB_min {x y : Int} (hx : okB x = true) (hy : okB y = true) : okB (min x y) = true := by
  obtain ⟨a1, a2⟩ := okB_iff.1 hx
  obtain ⟨b1, b2⟩ := okB_iff.1 hy
  exact okB_yes (by omega) (by omega)
theorem okB_max {x y : Int} (hx : okB x = true) (hy : okB y = true) : okB (max x y) = true := by
  obtain ⟨a1, a2⟩ := okB_iff.1 hx
  obtain ⟨b1, b2⟩ := okB_iff.1 hy
  exact okB_yes (by omega) (by omega)
theorem en_good {P B : Nat → Int} {t : Int} (ht : okB t = true) (h1 : prE P B = 0) (h2 : prE P (upB B) = 0) :
    ∃ l0 l1 l2 g0 g1 g2, pk lessB [(prV P B 0, prV P B 1, prV P B 2), (prV P (upB B) 0, prV P (upB B) 1, prV P (upB B) 2)] = (l0, l1, l2) ∧ pk moreB [(prV P B 0, prV P B 1, prV P B 2), (prV P (upB B) 0, prV P (upB B) 1, prV P (upB B) 2)] = (g0, g1, g2) ∧
      (addE [l0, l1, l2, t] ≠ 0 → addE [l0, l1, l2, t] = 6 ∧ enE P B t = 6) ∧ (addE [g0, g1, g2, t] ≠ 0 → addE [g0, g1, g2, t] = 6 ∧ enE P B t = 6) ∧
      (addE [l0, l1, l2, t] = 0 → addE [g0, g1, g2, t] = 0 → enE P B t = 0 ∧ enLo P B t = addV [l0, l1, l2, t] ∧ enHi P B t = addV [g0, g1, g2, t]) := by
  have hb : enBad P B 0 = false ∧ enBad P B 1 = false ∧ enBad P B 2 = false := by
    have a := first3_zero (e := prPE P B) h1
    have b := first3_zero (e := prPE P (upB B)) h2
    have c : ∀ k, k < 3 → enBad P B k = false := fun k hk => by
      unfold enBad
      rw [show mulE (P k) (B k) = 0 from a k hk, show mulE (P k) (B (3 + k)) = 0 from b k hk]; rfl
    exact ⟨c 0 (by omega), c 1 (by omega), c 2 (by omega)⟩
  have v1 : ∀ k, prV P B k = enX P B k := fun k => by unfold prV; rw [h1]; rfl
  have v2 : ∀ k, prV P (upB B) k = enY P B k := fun k => by unfold prV; rw [h2]; rfl
  have el : enLoL P B t = [t, min (enX P B 0) (enY P B 0), min (enX P B 1) (enY P B 1), min (enX P B 2) (enY P B 2)] := rfl
  have eh : enHiL P B t = [t, max (enX P B 0) (enY P B 0), max (enX P B 1) (enY P B 1), max (enX P B 2) (enY P B 2)] := rfl
  have ee : enE P B t = if (addE (enLoL P B t) != 0) || (addE (enHiL P B t) != 0) then 6 else 0 := by unfold enE; rw [hb.1, hb.2.1, hb.2.2]; rfl
  have kx : ∀ k, okB (enX P B k) = true := fun k => mulV_ok _ _
  have ky : ∀ k, okB (enY P B k) = true := fun k => mulV_ok _ _
  have tl := add_turn (min (enX P B 0) (enY P B 0)) (min (enX P B 1) (enY P B 1)) (min (enX P B 2) (enY P B 2)) t
  have th := add_turn (max (enX P B 0) (enY P B 0)) (max (enX P B 1) (enY P B 1)) (max (enX P B 2) (enY P B 2)) t
  rw [← el] at tl
  rw [← eh] at th
  refine ⟨min (enX P B 0) (enY P B 0), min (enX P B 1) (enY P B 1), min (enX P B 2) (enY P B 2), max (enX P B 0) (enY P B 0), max (enX P B 1) (enY P B 1), max (enX P B 2) (enY P B 2), ?_, ?_, ?_, ?_, ?_⟩
  · rw [v1, v1, v1, v2, v2, v2, ← bet_less, ← bet_less, ← bet_less]; rfl
  · rw [v1, v1, v1, v2, v2, v2, ← bet_more, ← bet_more, ← bet_more]; rfl
  · intro h
    refine ⟨add_six (okB_min (kx 0) (ky 0)) (okB_min (kx 1) (ky 1)) (okB_min (kx 2) (ky 2)) ht h, ?_⟩
    rw [tl.2] at h
    rw [ee, show (addE (enLoL P B t) != 0) = true by simpa using h]; rfl
  · intro h
    refine ⟨add_six (okB_max (kx 0) (ky 0)) (okB_max (kx 1) (ky 1)) (okB_max (kx 2) (ky 2)) ht h, ?_⟩
    rw [th.2] at h
    rw [ee, show (addE (enHiL P B t) != 0) = true by simpa using h, Bool.or_true]; rfl
  · intro a b
    have e0 : enE P B t = 0 := by
      rw [tl.2] at a
      rw [th.2] at b
      rw [ee, a, b]; rfl
    refine ⟨e0, ?_, ?_⟩
    · unfold enLo; rw [e0, tl.1]; rfl
    · unfold enHi; rw [e0, th.1]; rfl

theorem pick_xyz_l (a : Option Addr) (vs : List V3) (w : World) (p0 p1 p2 : Int) (hp : pk lessB vs = (p0, p1, p2)) (row : VRow w a 2 vs) :
    Calls Try.prog 52 #[.slice a 2 2] w fun e w' => e = .returned (.agg #[.int .i64 p0, .int .i64 p1, .int .i64 p2]) ∧ Below w.heap.size w w' :=
  (least_any a 2 2 vs w (by omega) (by omega) row).mono fun _ _ ⟨he, hw⟩ => ⟨by rw [he, hp]; rfl, hw⟩
theorem pick_xyz_g (a : Option Addr) (vs : List V3) (w : World) (p0 p1 p2 : Int) (hp : pk moreB vs = (p0, p1, p2)) (row : VRow w a 2 vs) :
    Calls Try.prog 55 #[.slice a 2 2] w fun e w' => e = .returned (.agg #[.int .i64 p0, .int .i64 p1, .int .i64 p2]) ∧ Below w.heap.size w w' :=
  (greatest_any a 2 2 vs w (by omega) (by omega) row).mono fun _ _ ⟨he, hw⟩ => ⟨by rw [he, hp]; rfl, hw⟩

set_option maxHeartbeats 2000000 in
theorem ends_any (P B : Nat → Int) (w : World) (h : okPlane P = true) (h' : okBox B = true) :
    Calls Try.prog 34 #[.agg #[.int .i64 (P 0), .int .i64 (P 1), .int .i64 (P 2), .int .i64 (P 3)], .agg #[.int .i64 (B 0), .int .i64 (B 1), .int .i64 (B 2), .int .i64 (B 3), .int .i64 (B 4), .int .i64 (B 5)]] w fun e w' => e = .returned (.tuple #[.int .i64 (enLo P B (P 3)), .int .i64 (enHi P B (P 3)), .int .i64 (enE P B (P 3))]) ∧ Below w.heap.size w w' := by
  have HO := Lib.hid (And.intro h h')
  clear h h'
  obtain ⟨a0, a1, a2, y1, hc1⟩ : ∃ a0 a1 a2 y, prV P B 0 = a0 ∧ prV P B 1 = a1 ∧ prV P B 2 = a2 ∧ prE P B = y := ⟨_, _, _, _, rfl, rfl, rfl, rfl⟩
  obtain ⟨b0, b1, b2, y2, hc2⟩ : ∃ a0 a1 a2 y, prV P (upB B) 0 = a0 ∧ prV P (upB B) 1 = a1 ∧ prV P (upB B) 2 = a2 ∧ prE P (upB B) = y := ⟨_, _, _, _, rfl, rfl, rfl, rfl⟩
  have H1 : Hid (∀ w', Calls Try.prog 53 #[.agg #[.int .i64 (P 0), .int .i64 (P 1), .int .i64 (P 2)], .agg #[.int .i64 (B 0), .int .i64 (B 1), .int .i64 (B 2)]] w' fun e w'' => e = .returned (.tuple #[.agg #[.int .i64 a0, .int .i64 a1, .int .i64 a2], .int .i64 y1]) ∧ Below w'.heap.size w' w'') :=
    Lib.hid (fun w' => (products_any P B w').mono fun _ _ ⟨he, hw⟩ => ⟨by rw [he, hc1.1, hc1.2.1, hc1.2.2.1, hc1.2.2.2], hw⟩)
  have H2 : Hid (∀ w', Calls Try.prog 53 #[.agg #[.int .i64 (P 0), .int .i64 (P 1), .int .i64 (P 2)], .agg #[.int .i64 (B 3), .int .i64 (B 4), .int .i64 (B 5)]] w' fun e w'' => e = .returned (.tuple #[.agg #[.int .i64 b0, .int .i64 b1, .int .i64 b2], .int .i64 y2]) ∧ Below w'.heap.size w' w'') :=
    Lib.hid (fun w' => (products_any P (upB B) w').mono fun _ _ ⟨he, hw⟩ => ⟨by rw [he, hc2.1, hc2.2.1, hc2.2.2.1, hc2.2.2.2], hw⟩)
  have HC := Lib.hid (And.intro hc1 hc2)
  clear hc1 hc2
  by_cases he1 : y1 = 0
  · have hy1 : (y1 != 0) = false := by rw [he1]; rfl
    by_cases he2 : y2 = 0
    · have hy2 : (y2 != 0) = false := by rw [he2]; rfl
      obtain ⟨l0, l1, l2, g0, g1, g2, hl, hg, hx1, hx2, hx3⟩ := en_good (P := P) (B := B) (okPlane_at HO.out.1 (k := 3) (by omega)) (by rw [HC.out.1.2.2.2]; exact he1) (by rw [HC.out.2.2.2.2]; exact he2)
      rw [HC.out.1.1, HC.out.1.2.1, HC.out.1.2.2.1, HC.out.2.1, HC.out.2.2.1, HC.out.2.2.2.1] at hl hg
      have HL := Lib.hid hl
      have HG := Lib.hid hg
      obtain ⟨u, f1, hu, hf1⟩ : ∃ u f, u = addV [l0, l1, l2, P 3] ∧ f = addE [l0, l1, l2, P 3] := ⟨_, _, rfl, rfl⟩
      obtain ⟨v, f2, hv, hf2⟩ : ∃ u f, u = addV [g0, g1, g2, P 3] ∧ f = addE [g0, g1, g2, P 3] := ⟨_, _, rfl, rfl⟩
      rw [← hf1] at hx1 hx3
      rw [← hf2] at hx2 hx3
      rw [← hu, ← hv] at hx3
      have T1 : Hid (∀ w', Calls Try.prog 54 #[.agg #[.int .i64 l0, .int .i64 l1, .int .i64 l2], .int .i64 (P 3)] w' fun e w'' => e = .returned (.tuple #[.int .i64 u, .int .i64 f1]) ∧ Below w'.heap.size w' w'') :=
        Lib.hid (fun w' => (total_any l0 l1 l2 (P 3) w').mono fun _ _ ⟨he, hw⟩ => ⟨by rw [he, hu, hf1], hw⟩)
      have T2 : Hid (∀ w', Calls Try.prog 54 #[.agg #[.int .i64 g0, .int .i64 g1, .int .i64 g2], .int .i64 (P 3)] w' fun e w'' => e = .returned (.tuple #[.int .i64 v, .int .i64 f2]) ∧ Below w'.heap.size w' w'') :=
        Lib.hid (fun w' => (total_any g0 g1 g2 (P 3) w').mono fun _ _ ⟨he, hw⟩ => ⟨by rw [he, hv, hf2], hw⟩)
      have HX := Lib.hid (And.intro hx1 (And.intro hx2 hx3))
      clear hl hg hx1 hx2 hx3 hu hf1 hv hf2 he1 he2
      go_enter Try.func34, Try.ntmps34
      go_wp2_with fail
      refine (H1.out _).mono ?_
      rintro e w1 ⟨rfl, b1⟩
      have KP := Lib.hid (((Blk.new w 81 _).alloc _).keep b1)
      have KB := Lib.hid (blkAt ((Blk.new (w.alloc _) 30 _).keep b1) (g' := w.heap.size + 1) (by simp))
      have B1 := Lib.hid (bthen (balloc (alloc_below _ _) _) b1)
      clear b1
      obtain ⟨d0, d1, d2, d3, d4, d5, _⟩ := blk6 KB.out
      obtain ⟨p0, p1, p2, p3⟩ := blk4 KP.out
      have z := KB.out.lt
      have z' := KP.out.lt
      go_wp2_with fail
      refine (H2.out _).mono ?_
      rintro e w2 ⟨rfl, b2⟩
      replace KP := Lib.hid ((KP.out.alloc _).keep b2)
      have KX := Lib.hid ((Blk.new w1 28 _).keep b2)
      replace B1 := Lib.hid (bthen (balloc B1.out _) b2)
      clear b2 d0 d1 d2 d3 d4 d5 p0 p1 p2 p3 KB z z'
      go_wp2
      refine fin (fun W => Blk W w.heap.size 81 #[.int .i64 (P 0), .int .i64 (P 1), .int .i64 (P 2), .int .i64 (P 3)] ∧ Blk W w1.heap.size 28 #[.int .i64 a0, .int .i64 a1, .int .i64 a2] ∧ Blk W w2.heap.size 28 #[.int .i64 b0, .int .i64 b1, .int .i64 b2] ∧ Below w.heap.size w W) ⟨KP.out.alloc _, KX.out.alloc _, Blk.new w2 _ _, balloc B1.out _⟩ ?_
      clear KP KX B1
      rintro W ⟨kp, kx, ky, hb⟩
      have KP := Lib.hid kp
      have KX := Lib.hid kx
      have KY := Lib.hid ky
      have HB := Lib.hid hb
      clear kp kx ky hb
      have HS : Hid (∀ w', Below W.heap.size W w' → (w'.cell? ⟨w1.heap.size, 0, none⟩ = some (.int .i64 a0) ∧ w'.cell? ⟨w1.heap.size, 1, none⟩ = some (.int .i64 a1) ∧ w'.cell? ⟨w1.heap.size, 2, none⟩ = some (.int .i64 a2) ∧ w'.cell? ⟨w2.heap.size, 0, none⟩ = some (.int .i64 b0) ∧ w'.cell? ⟨w2.heap.size, 1, none⟩ = some (.int .i64 b1) ∧ w'.cell? ⟨w2.heap.size, 2, none⟩ = some (.int .i64 b2) ∧ w'.cell? ⟨w.heap.size, 3, none⟩ = some (.int .i64 (P 3)))) :=
        Lib.hid (fun w' hb => ⟨(KX.out.keep hb).cell 0, (KX.out.keep hb).cell 1, (KX.out.keep hb).cell 2, (KY.out.keep hb).cell 0, (KY.out.keep hb).cell 1, (KY.out.keep hb).cell 2, (KP.out.keep hb).cell 3⟩)
      go_region_held3 (fun w' => w'.cell? ⟨w1.heap.size, 0, none⟩ = some (.int .i64 a0) ∧ w'.cell? ⟨w1.heap.size, 1, none⟩ = some (.int .i64 a1) ∧ w'.cell? ⟨w1.heap.size, 2, none⟩ = some (.int .i64 a2) ∧ w'.cell? ⟨w2.heap.size, 0, none⟩ = some (.int .i64 b0) ∧ w'.cell? ⟨w2.heap.size, 1, none⟩ = some (.int .i64 b1) ∧ w'.cell? ⟨w2.heap.size, 2, none⟩ = some (.int .i64 b2) ∧ w'.cell? ⟨w.heap.size, 3, none⟩ = some (.int .i64 (P 3)))
        (first | exact HS.out _ (bthen (bthen (alloc_below _ _) (bdrew c1)) c2) | exact HS.out _ (bthen (alloc_below _ _) (bdrew c1)) | exact HS.out _ (bdrewn (alloc_below _ _)) | exact HS.out _ (bdrewn (Below.refl _ _)))
        (first | (go_at_call 54; refine (T1.out _).mono ?_; rintro e w4 ⟨rfl, c2⟩) | (go_at_call 52; refine (pick_xyz_l _ _ _ l0 l1 l2 HL.out (vrow2 (Blk.drew (Blk.new W _ _)))).mono ?_; rintro e w3 ⟨rfl, c1⟩))
      have B2 := Lib.hid (bthen (bthen (alloc_below _ _) (bdrew c1)) c2)
      clear c1 c2 HS
      replace KP := Lib.hid (KP.out.keep B2.out)
      replace KX := Lib.hid (KX.out.keep B2.out)
      replace KY := Lib.hid (KY.out.keep B2.out)
      replace HB := Lib.hid (bthen HB.out B2.out)
      clear B2
      by_cases hf1 : f1 = 0
      · have hg1 : (f1 != 0) = false := by rw [hf1]; rfl
        have HF1 := Lib.hid hf1
        clear hf1
        go_wp2
        have HS : Hid (∀ w', Below w4.heap.size w4 w' → (w'.cell? ⟨w1.heap.size, 0, none⟩ = some (.int .i64 a0) ∧ w'.cell? ⟨w1.heap.size, 1, none⟩ = some (.int .i64 a1) ∧ w'.cell? ⟨w1.heap.size, 2, none⟩ = some (.int .i64 a2) ∧ w'.cell? ⟨w2.heap.size, 0, none⟩ = some (.int .i64 b0) ∧ w'.cell? ⟨w2.heap.size, 1, none⟩ = some (.int .i64 b1) ∧ w'.cell? ⟨w2.heap.size, 2, none⟩ = some (.int .i64 b2) ∧ w'.cell? ⟨w.heap.size, 3, none⟩ = some (.int .i64 (P 3)))) :=
          Lib.hid (fun w' hb => ⟨(KX.out.keep hb).cell 0, (KX.out.keep hb).cell 1, (KX.out.keep hb).cell 2, (KY.out.keep hb).cell 0, (KY.out.keep hb).cell 1, (KY.out.keep hb).cell 2, (KP.out.keep hb).cell 3⟩)
        go_region_held3 (fun w' => w'.cell? ⟨w1.heap.size, 0, none⟩ = some (.int .i64 a0) ∧ w'.cell? ⟨w1.heap.size, 1, none⟩ = some (.int .i64 a1) ∧ w'.cell? ⟨w1.heap.size, 2, none⟩ = some (.int .i64 a2) ∧ w'.cell? ⟨w2.heap.size, 0, none⟩ = some (.int .i64 b0) ∧ w'.cell? ⟨w2.heap.size, 1, none⟩ = some (.int .i64 b1) ∧ w'.cell? ⟨w2.heap.size, 2, none⟩ = some (.int .i64 b2) ∧ w'.cell? ⟨w.heap.size, 3, none⟩ = some (.int .i64 (P 3)))
          (first | exact HS.out _ (bthen (bthen (alloc_below _ _) (bdrew c1)) c2) | exact HS.out _ (bthen (alloc_below _ _) (bdrew c1)) | exact HS.out _ (bdrewn (alloc_below _ _)) | exact HS.out _ (bdrewn (Below.refl _ _)))
          (first | (go_at_call 54; refine (T2.out _).mono ?_; rintro e w6 ⟨rfl, c2⟩) | (go_at_call 55; refine (pick_xyz_g _ _ _ g0 g1 g2 HG.out (vrow2 (Blk.drew (Blk.new w4 _ _)))).mono ?_; rintro e w5 ⟨rfl, c1⟩))
        have HB2 := Lib.hid (bthen HB.out (bthen (bthen (alloc_below _ _) (bdrew c1)) c2))
        clear c1 c2 HS
        by_cases hf2 : f2 = 0
        · have hg2 : (f2 != 0) = false := by rw [hf2]; rfl
          have HF2 := Lib.hid hf2
          clear hf2
          go_wp2
          have q := HX.out.2.2 HF1.out HF2.out
          exact bodyPost_ret (v := .tuple #[.int .i64 u, .int .i64 v, .int .i64 0]) (by simp [results, Try.results34, go_sem]) rfl ⟨by rw [q.1, q.2.1, q.2.2], HB2.out⟩
        · have hg2 : (f2 != 0) = true := by simpa using hf2
          have q := Lib.hid (HX.out.2.1 hf2)
          clear hf2
          go_wp2
          exact bodyPost_ret (v := .tuple #[.int .i64 0, .int .i64 0, .int .i64 f2]) (by simp [results, Try.results34, go_sem]) rfl ⟨by rw [q.out.1, q.out.2, (en_no q.out.2).1, (en_no q.out.2).2], HB2.out⟩
      · have hg1 : (f1 != 0) = true := by simpa using hf1
        have q := Lib.hid (HX.out.1 hf1)
        clear hf1
        go_wp2
        exact bodyPost_ret (v := .tuple #[.int .i64 0, .int .i64 0, .int .i64 f1]) (by simp [results, Try.results34, go_sem]) rfl ⟨by rw [q.out.1, q.out.2, (en_no q.out.2).1, (en_no q.out.2).2], HB.out⟩
    · have hy2 : (y2 != 0) = true := by simpa using he2
      have q := Lib.hid (hi_bad (t := P 3) HO.out.1 HO.out.2 (by rw [HC.out.2.2.2.2]; exact he2))
      rw [HC.out.2.2.2.2] at q
      clear he1 he2
      go_enter Try.func34, Try.ntmps34
      go_wp2_with fail
      refine (H1.out _).mono ?_
      rintro e w1 ⟨rfl, b1⟩
      have KP := Lib.hid (((Blk.new w 81 _).alloc _).keep b1)
      have KB := Lib.hid (blkAt ((Blk.new (w.alloc _) 30 _).keep b1) (g' := w.heap.size + 1) (by simp))
      have B1 := Lib.hid (bthen (balloc (alloc_below _ _) _) b1)
      clear b1
      obtain ⟨d0, d1, d2, d3, d4, d5, _⟩ := blk6 KB.out
      obtain ⟨p0, p1, p2, p3⟩ := blk4 KP.out
      have z := KB.out.lt
      have z' := KP.out.lt
      go_wp2_with fail
      refine (H2.out _).mono ?_
      rintro e w2 ⟨rfl, b2⟩
      replace B1 := Lib.hid (bthen (balloc B1.out _) b2)
      clear b2 d0 d1 d2 d3 d4 d5 p0 p1 p2 p3 KB KP z z'
      go_wp2
      exact bodyPost_ret (v := .tuple #[.int .i64 0, .int .i64 0, .int .i64 y2]) (by simp [results, Try.results34, go_sem]) rfl ⟨by rw [q.out.1, q.out.2, (en_no q.out.2).1, (en_no q.out.2).2], balloc B1.out _⟩
  · have hy1 : (y1 != 0) = true := by simpa using he1
    have q := Lib.hid (lo_bad (t := P 3) HO.out.1 HO.out.2 (by rw [HC.out.1.2.2.2]; exact he1))
    rw [HC.out.1.2.2.2] at q
    clear he1
    go_enter Try.func34, Try.ntmps34
    go_wp2_with fail
    refine (H1.out _).mono ?_
    rintro e w1 ⟨rfl, b1⟩
    have B1 := Lib.hid (bthen (balloc (alloc_below _ _) _) b1)
    clear b1
    go_wp2
    exact bodyPost_ret (v := .tuple #[.int .i64 0, .int .i64 0, .int .i64 y1]) (by simp [results, Try.results34, go_sem]) rfl ⟨by rw [q.out.1, q.out.2, (en_no q.out.2).1, (en_no q.out.2).2], balloc B1.out _⟩

end Go.Proofs.Ytffbehcbokmpkaa
