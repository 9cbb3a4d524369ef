/-
  What the program's With, Without and Drawn of layer 6 answer.
-/
import Derived.Test.YtfekaolnmkikoaaPrtN
namespace Go.Proofs.Ytfekaolnmkikoaa
open Go.RowKit

theorem hasAll_ok {s : Int} {ks : List Int} (h : hasAll s ks = true) : ksOk ks = true := by
  cases c : ksOk ks with
  | true => rfl
  | false => rw [hasAll_no c] at h; cases h

set_option maxHeartbeats 4000000 in
theorem pwith_any (P Q : PT) (a : Option Addr) (len cap : Nat) (ks : List Int) (w : World) (row : Row w a len ks) :
    Calls Try.prog 8 #[.agg (pl P).toArray, .agg (pl Q).toArray, .slice a len cap] w fun e w' => e = .returned (.tuple #[.agg (pl (withV P Q ks)).toArray, .int .i64 (withE P Q ks)]) ∧ Below w.heap.size w w' := by
  have HRow := Lib.hid row
  clear row
  obtain ⟨b1, h1⟩ : ∃ b, rightT P = b := ⟨_, rfl⟩
  obtain ⟨b2, h2⟩ : ∃ b, rightT Q = b := ⟨_, rfl⟩
  obtain ⟨b3, h3⟩ : ∃ b, hasAll Q.1 ks = b := ⟨_, rfl⟩
  have H1 := Lib.hid h1
  have H2 := Lib.hid h2
  have H3 := Lib.hid h3
  have HOk : Hid (withOk P Q ks = (b1 && b2 && b3)) := Lib.hid (by unfold withOk; rw [h1, h2, h3])
  clear h1 h2 h3
  have HSZ := Lib.hid (pl_size' zT)
  have HOZ := Lib.hid (pl_one zT)
  have HLZ := Lib.hid (pl_len zT)
  have HSzP := Lib.hid (pl_size P)
  have HSzQ := Lib.hid (pl_size Q)
  have KP := Lib.hid (((Blk.new w 31 (pl P).toArray).alloc (.cells (pl Q).toArray 31)).alloc (.cells (pl zT).toArray 31))
  have KQ := Lib.hid (blkAt ((Blk.new (w.alloc (.cells (pl P).toArray 31)) 31 (pl Q).toArray).alloc (.cells (pl zT).toArray 31)) (g' := w.heap.size + 1) (by simp))
  have KR := Lib.hid (blkAt (Blk.new ((w.alloc (.cells (pl P).toArray 31)).alloc (.cells (pl Q).toArray 31)) 31 (pl zT).toArray) (g' := w.heap.size + 1 + 1) (by simp))
  go_enter Try.func8, Try.ntmps8
  go_wp2_with (refine wpList_load_mid rfl 31 (.tmp 3) rfl w.heap.size 0 rfl (pl P) _ (blk_whole KP.out) Try.underlying31 rfl HSzP.out ?_)
  refine (prightT H1.out _).mono ?_
  rintro e w1 ⟨rfl, k1⟩
  replace KP := Lib.hid (KP.out.keep k1)
  replace KQ := Lib.hid (KQ.out.keep k1)
  replace KR := Lib.hid (KR.out.keep k1)
  have HB := Lib.hid (bthen (balloc (balloc (alloc_below _ _) _) _) k1)
  replace HRow := Lib.hid (row_keep HRow.out HB.out)
  clear k1
  cases b1 with
  | false =>
    have HNo := Lib.hid (with_no (P := P) (Q := Q) (ks := ks) (by rw [HOk.out]; rfl))
    go_wp2_with (refine wpList_store_mid rfl 31 (.tmp 6) (.tmp 23) rfl (w.heap.size + 1 + 1) 0 (pl zT).toArray rfl rfl (blk_there KR.out (by simp [HLZ.out])) HSZ.out HOZ.out ?_)
    have KW := Lib.hid (splice_all (X := pl zT) (Z := pl zT) rfl ▸ blk_setCells (pl zT) KR.out (by omega))
    refine fin (fun W => Blk W (w.heap.size + 1 + 1) 31 (pl zT).toArray ∧ Below w.heap.size w W) ⟨KW.out, below_setCells _ HB.out (by omega)⟩ ?_
    rintro W ⟨kr, hb⟩
    have hl := run_loadVar_mid W (w.heap.size + 1 + 1) 0 31 (pl zT) _ (blk_whole kr) Try.underlying31 rfl (pl_size zT)
    exact bodyPost_ret (v := .tuple #[.agg (pl zT).toArray, .int .i64 1]) (results_cell2 Try.results8 rfl rfl hl) rfl ⟨by rw [HNo.out.1, HNo.out.2], hb⟩
  | true =>
    go_wp2_with (refine wpList_load_g (by rfl) 31 (.tmp 4) rfl (w.heap.size + 1) 0 rfl (pl Q) _ (blk_whole KQ.out) Try.underlying31 rfl HSzQ.out ?_)
    refine (prightT H2.out _).mono ?_
    rintro e w2 ⟨rfl, k2⟩
    replace KP := Lib.hid (KP.out.keep k2)
    replace KQ := Lib.hid (KQ.out.keep k2)
    replace KR := Lib.hid (KR.out.keep k2)
    replace HB := Lib.hid (bthen HB.out k2)
    replace HRow := Lib.hid (row_keep HRow.out k2)
    clear k2
    cases b2 with
    | false =>
      have HNo := Lib.hid (with_no (P := P) (Q := Q) (ks := ks) (by rw [HOk.out]; rfl))
      go_wp2_with (refine wpList_store_mid rfl 31 (.tmp 6) (.tmp 23) rfl (w.heap.size + 1 + 1) 0 (pl zT).toArray rfl rfl (blk_there KR.out (by simp [HLZ.out])) HSZ.out HOZ.out ?_)
      have KW := Lib.hid (splice_all (X := pl zT) (Z := pl zT) rfl ▸ blk_setCells (pl zT) KR.out (by omega))
      refine fin (fun W => Blk W (w.heap.size + 1 + 1) 31 (pl zT).toArray ∧ Below w.heap.size w W) ⟨KW.out, below_setCells _ HB.out (by omega)⟩ ?_
      rintro W ⟨kr, hb⟩
      have hl := run_loadVar_mid W (w.heap.size + 1 + 1) 0 31 (pl zT) _ (blk_whole kr) Try.underlying31 rfl (pl_size zT)
      exact bodyPost_ret (v := .tuple #[.agg (pl zT).toArray, .int .i64 1]) (results_cell2 Try.results8 rfl rfl hl) rfl ⟨by rw [HNo.out.1, HNo.out.2], hb⟩
    | true =>
      have cq : w2.cell? ⟨w.heap.size + 1, 0, none⟩ = some (.int .i64 Q.1) := KQ.out.cell 0
      have zq := KQ.out.lt
      go_wp2_with fail
      refine (phas_b H3.out _ _ _ _ HRow.out).mono ?_
      rintro e w3 ⟨rfl, rfl⟩
      clear cq zq
      cases b3 with
      | false =>
        have HNo := Lib.hid (with_no (P := P) (Q := Q) (ks := ks) (by rw [HOk.out]; rfl))
        go_wp2_with (refine wpList_store_mid rfl 31 (.tmp 6) (.tmp 23) rfl (w.heap.size + 1 + 1) 0 (pl zT).toArray rfl rfl (blk_there KR.out (by simp [HLZ.out])) HSZ.out HOZ.out ?_)
        have KW := Lib.hid (splice_all (X := pl zT) (Z := pl zT) rfl ▸ blk_setCells (pl zT) KR.out (by omega))
        refine fin (fun W => Blk W (w.heap.size + 1 + 1) 31 (pl zT).toArray ∧ Below w.heap.size w W) ⟨KW.out, below_setCells _ HB.out (by omega)⟩ ?_
        rintro W ⟨kr, hb⟩
        have hl := run_loadVar_mid W (w.heap.size + 1 + 1) 0 31 (pl zT) _ (blk_whole kr) Try.underlying31 rfl (pl_size zT)
        exact bodyPost_ret (v := .tuple #[.agg (pl zT).toArray, .int .i64 1]) (results_cell2 Try.results8 rfl rfl hl) rfl ⟨by rw [HNo.out.1, HNo.out.2], hb⟩
      | true =>
        have HYes := Lib.hid (with_yes (P := P) (Q := Q) (ks := ks) (by rw [HOk.out]; rfl))
        go_wp2_with (first | refine wpList_load_mid rfl 31 (.tmp 3) rfl w.heap.size 0 rfl (pl P) _ (blk_whole KP.out) Try.underlying31 rfl HSzP.out ?_ | refine wpList_load_mid rfl 31 (.tmp 4) rfl (w.heap.size + 1) 0 rfl (pl Q) _ (blk_whole KQ.out) Try.underlying31 rfl HSzQ.out ?_)
        refine (lay_any P Q _ _ _ ks _ (right_bound H1.out) (hasAll_ok H3.out) HRow.out).mono ?_
        rintro e w4 ⟨rfl, k4⟩
        replace KP := Lib.hid (KP.out.keep k4)
        replace KQ := Lib.hid (KQ.out.keep k4)
        replace KR := Lib.hid (KR.out.keep k4)
        replace HB := Lib.hid (bthen HB.out k4)
        clear k4 HRow
        obtain ⟨R, hR⟩ : ∃ R, R = withT P Q ks := ⟨_, rfl⟩
        rw [← hR] at HYes
        rw [← hR]
        clear hR
        have HS5 := Lib.hid (splice_all (X := pl R) (Z := pl zT) rfl ▸ blk_setCells (pl R) KR.out (by simp [pl_len]))
        go_wp2_with (refine wpList_store_mid rfl 31 (.tmp 6) (.tmp 27) rfl (w.heap.size + 1 + 1) 0 (pl R).toArray rfl rfl (blk_there KR.out (by simp [pl_len])) (pl_size' _) (pl_one _) ?_)
        refine fin (fun W => Blk W (w.heap.size + 1 + 1) 31 (pl R).toArray ∧ Below w.heap.size w W) ⟨HS5.out, below_setCells _ HB.out (by omega)⟩ ?_
        rintro W ⟨kr, hb⟩
        have hl := run_loadVar_mid W (w.heap.size + 1 + 1) 0 31 (pl R) _ (blk_whole kr) Try.underlying31 rfl (pl_size R)
        exact bodyPost_ret (v := .tuple #[.agg (pl R).toArray, .int .i64 0]) (results_cell2 Try.results8 rfl rfl hl) rfl ⟨by rw [HYes.out.1, HYes.out.2], hb⟩

/-- what Without answers, as the program reckons it, cell by cell the same -/
def woutP (P : PT) (ks : List Int) : PT := pickT (bits .andNot .i64 P.1 (ksS ks)) P
def woutPV (P : PT) (ks : List Int) : PT := if woutOk P ks then woutP P ks else zT
set_option maxHeartbeats 4000000 in
theorem pwout_any (P : PT) (a : Option Addr) (len cap : Nat) (ks : List Int) (w : World) (row : Row w a len ks) :
    Calls Try.prog 10 #[.agg (pl P).toArray, .slice a len cap] w fun e w' => e = .returned (.tuple #[.agg (pl (woutPV P ks)).toArray, .int .i64 (woutE P ks)]) ∧ Below w.heap.size w w' := by
  have HRow := Lib.hid row
  clear row
  obtain ⟨b1, h1⟩ : ∃ b, rightT P = b := ⟨_, rfl⟩
  obtain ⟨b2, h2⟩ : ∃ b, ksOk ks = b := ⟨_, rfl⟩
  have H1 := Lib.hid h1
  have HOk : Hid (woutOk P ks = (b1 && b2)) := Lib.hid (by unfold woutOk; rw [h1, h2])
  have HKs : Hid (ksV ks = (if b2 then ksS ks else 0) ∧ ksE ks = (if b2 then 0 else 1)) := Lib.hid (by unfold ksV ksE; rw [h2]; exact ⟨rfl, rfl⟩)
  clear h1 h2
  have HSZ := Lib.hid (pl_size' zT)
  have HOZ := Lib.hid (pl_one zT)
  have HLZ := Lib.hid (pl_len zT)
  have HSzP := Lib.hid (pl_size P)
  have KP := Lib.hid ((Blk.new w 31 (pl P).toArray).alloc (.cells (pl zT).toArray 31))
  have KR := Lib.hid (blkAt (Blk.new (w.alloc (.cells (pl P).toArray 31)) 31 (pl zT).toArray) (g' := w.heap.size + 1) (by simp))
  have HB := Lib.hid (balloc (alloc_below w (.cells (pl P).toArray 31)) (.cells (pl zT).toArray 31))
  replace HRow := Lib.hid (row_keep HRow.out HB.out)
  go_enter Try.func10, Try.ntmps10
  go_wp2_with fail
  refine (pof_any _ _ _ ks _ HRow.out).mono ?_
  rintro e w1 ⟨rfl, rfl⟩
  rw [HKs.out.1, HKs.out.2]
  clear HKs
  cases b2 with
  | false =>
    have HNo : Hid (woutE P ks = 1 ∧ woutPV P ks = zT) := Lib.hid (by unfold woutE woutPV; rw [HOk.out]; cases b1 <;> exact ⟨rfl, rfl⟩)
    simp only [if_neg Bool.false_ne_true]
    go_wp2_with (refine wpList_store_mid rfl 31 (.tmp 4) (.tmp 20) rfl (w.heap.size + 1) 0 (pl zT).toArray rfl rfl (blk_there KR.out (by simp [HLZ.out])) HSZ.out HOZ.out ?_)
    have KW := Lib.hid (splice_all (X := pl zT) (Z := pl zT) rfl ▸ blk_setCells (pl zT) KR.out (by omega))
    refine fin (fun W => Blk W (w.heap.size + 1) 31 (pl zT).toArray ∧ Below w.heap.size w W) ⟨KW.out, below_setCells _ HB.out (by omega)⟩ ?_
    rintro W ⟨kr, hb⟩
    have hl := run_loadVar_mid W (w.heap.size + 1) 0 31 (pl zT) _ (blk_whole kr) Try.underlying31 rfl (pl_size zT)
    exact bodyPost_ret (v := .tuple #[.agg (pl zT).toArray, .int .i64 1]) (results_cell2 Try.results10 rfl rfl hl) rfl ⟨by rw [HNo.out.1, HNo.out.2], hb⟩
  | true =>
    simp only [if_true]
    obtain ⟨t, ht⟩ : ∃ t, t = ksS ks := ⟨_, rfl⟩
    rw [← ht]
    have HT := Lib.hid ht
    clear ht
    go_wp2_with (refine wpList_load_g (by rfl) 31 (.tmp 2) rfl w.heap.size 0 rfl (pl P) _ (blk_whole KP.out) Try.underlying31 rfl HSzP.out ?_)
    refine (prightT H1.out _).mono ?_
    rintro e w2 ⟨rfl, k2⟩
    replace KP := Lib.hid (KP.out.keep k2)
    replace KR := Lib.hid (KR.out.keep k2)
    replace HB := Lib.hid (bthen HB.out k2)
    clear k2 HRow
    cases b1 with
    | false =>
      have HNo : Hid (woutE P ks = 1 ∧ woutPV P ks = zT) := Lib.hid (by unfold woutE woutPV; rw [HOk.out]; exact ⟨rfl, rfl⟩)
      go_wp2_with (refine wpList_store_mid rfl 31 (.tmp 4) (.tmp 20) rfl (w.heap.size + 1) 0 (pl zT).toArray rfl rfl (blk_there KR.out (by simp [HLZ.out])) HSZ.out HOZ.out ?_)
      have KW := Lib.hid (splice_all (X := pl zT) (Z := pl zT) rfl ▸ blk_setCells (pl zT) KR.out (by omega))
      refine fin (fun W => Blk W (w.heap.size + 1) 31 (pl zT).toArray ∧ Below w.heap.size w W) ⟨KW.out, below_setCells _ HB.out (by omega)⟩ ?_
      rintro W ⟨kr, hb⟩
      have hl := run_loadVar_mid W (w.heap.size + 1) 0 31 (pl zT) _ (blk_whole kr) Try.underlying31 rfl (pl_size zT)
      exact bodyPost_ret (v := .tuple #[.agg (pl zT).toArray, .int .i64 1]) (results_cell2 Try.results10 rfl rfl hl) rfl ⟨by rw [HNo.out.1, HNo.out.2], hb⟩
    | true =>
      have HYes : Hid (woutE P ks = 0 ∧ woutPV P ks = pickT (bits .andNot .i64 P.1 t) P) := Lib.hid (by unfold woutE woutPV woutP; rw [HOk.out, HT.out]; exact ⟨rfl, rfl⟩)
      have HOn := Lib.hid (only_any P (bits .andNot .i64 P.1 t))
      obtain ⟨R, hR⟩ : ∃ R, R = pickT (bits .andNot .i64 P.1 t) P := ⟨_, rfl⟩
      rw [← hR] at HYes HOn
      clear hR
      have cp : w2.cell? ⟨w.heap.size, 0, none⟩ = some (.int .i64 P.1) := KP.out.cell 0
      have zp := KP.out.lt
      go_wp2_with (refine wpList_load_mid rfl 31 (.tmp 2) rfl w.heap.size 0 rfl (pl P) _ (blk_whole KP.out) Try.underlying31 rfl HSzP.out ?_)
      refine (HOn.out _).mono ?_
      rintro e w4 ⟨rfl, k4⟩
      replace KP := Lib.hid (KP.out.keep k4)
      replace KR := Lib.hid (KR.out.keep k4)
      replace HB := Lib.hid (bthen HB.out k4)
      clear k4 cp zp HOn
      have HS5 := Lib.hid (splice_all (X := pl R) (Z := pl zT) rfl ▸ blk_setCells (pl R) KR.out (by simp [pl_len]))
      go_wp2_with (refine wpList_store_mid rfl 31 (.tmp 4) (.tmp 26) rfl (w.heap.size + 1) 0 (pl R).toArray rfl rfl (blk_there KR.out (by simp [pl_len])) (pl_size' _) (pl_one _) ?_)
      refine fin (fun W => Blk W (w.heap.size + 1) 31 (pl R).toArray ∧ Below w.heap.size w W) ⟨HS5.out, below_setCells _ HB.out (by omega)⟩ ?_
      rintro W ⟨kr, hb⟩
      have hl := run_loadVar_mid W (w.heap.size + 1) 0 31 (pl R) _ (blk_whole kr) Try.underlying31 rfl (pl_size R)
      exact bodyPost_ret (v := .tuple #[.agg (pl R).toArray, .int .i64 0]) (results_cell2 Try.results10 rfl rfl hl) rfl ⟨by rw [HYes.out.1, HYes.out.2], hb⟩

theorem has3 (s : Int) : hasAll s [0, 1, 2] = decide (s % 8 = 7) := by
  unfold hasAll
  have h0 : hasB s 0 = decide (s % 2 = 1) := by rw [show hasB s 0 = hasN s 0 from has_yes (k := 0) (by omega)]; unfold hasN; simp
  have h1 : hasB s 1 = decide (s / 2 % 2 = 1) := by rw [show hasB s 1 = hasN s 1 from has_yes (k := 1) (by omega)]; unfold hasN; simp
  have h2 : hasB s 2 = decide (s / 4 % 2 = 1) := by rw [show hasB s 2 = hasN s 2 from has_yes (k := 2) (by omega)]; unfold hasN; simp
  simp only [List.all_cons, List.all_nil, h0, h1, h2, Bool.and_true]
  rw [Bool.eq_iff_iff]
  simp only [Bool.and_eq_true, decide_eq_true_eq]
  omega
def drawnT (P : PT) : Bool := rightT P && decide (P.1 % 8 = 7)
set_option maxHeartbeats 2000000 in
theorem pdrawn_any (P : PT) (w : World) :
    Calls Try.prog 17 #[.agg (pl P).toArray] w fun e w' => e = .returned (.bool (drawnT P)) ∧ Below w.heap.size w w' := by
  unfold drawnT
  obtain ⟨b1, h1⟩ : ∃ b, rightT P = b := ⟨_, rfl⟩
  obtain ⟨b2, h2⟩ : ∃ b, decide (P.1 % 8 = 7) = b := ⟨_, rfl⟩
  have H1 := Lib.hid h1
  have H2 := Lib.hid ((has3 P.1).trans h2)
  rw [h1, h2]
  clear h1 h2
  have KP := Lib.hid (Blk.new w 31 (pl P).toArray)
  have HSzP := Lib.hid (pl_size P)
  go_enter Try.func17, Try.ntmps17
  go_wp2_with (refine wpList_load_mid rfl 31 (.tmp 1) rfl w.heap.size 0 rfl (pl P) _ (blk_whole KP.out) Try.underlying31 rfl HSzP.out ?_)
  refine (prightT H1.out _).mono ?_
  rintro e w1 ⟨rfl, k1⟩
  replace KP := Lib.hid (KP.out.keep k1)
  have HB := Lib.hid (bthen (alloc_below _ _) k1)
  clear k1 H1
  cases b1 with
  | false =>
    go_wp2
    go_ret
    exact ⟨rfl, HB.out⟩
  | true =>
    have cp : w1.cell? ⟨w.heap.size, 0, none⟩ = some (.int .i64 P.1) := KP.out.cell 0
    have zp := KP.out.lt
    go_wp2_with fail
    refine (phas_b H2.out _ _ _ _ (row3 (Blk.new w1 _ _))).mono ?_
    rintro e w2 ⟨rfl, rfl⟩
    replace HB := Lib.hid (balloc HB.out (.cells #[.int .i64 0, .int .i64 1, .int .i64 2] 45))
    go_wp2
    go_ret
    exact ⟨by simp, HB.out⟩

end Go.Proofs.Ytfekaolnmkikoaa
