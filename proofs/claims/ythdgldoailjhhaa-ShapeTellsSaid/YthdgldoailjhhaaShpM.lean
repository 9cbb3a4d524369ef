/-
  What package shape's Carry answers.
-/
import Derived.Test.YthdgldoailjhhaaShpL
namespace Go.Proofs.Ythdgldoailjhhaa
open Go.RowKit

theorem okPlane_row {M : Nat → Int} (h : okM M = true) {r : Nat} (hr : r < 3) : okPlane (spM M r) = true := by
  unfold okPlane rightB spM
  simp [okM_at h (k := 4 * r + 1) (by omega), okM_at h (k := 4 * r + 2) (by omega), okM_at h (k := 4 * r + 3) (by omega)]
  exact okM_at h (k := 4 * r) (by omega)

set_option maxHeartbeats 1000000 in
theorem shcarry_no1 (M B : Nat → Int) (w : World) (h : okM M = false) :
    Calls Try.prog 12 #[.agg #[.int .i64 (M 0), .int .i64 (M 1), .int .i64 (M 2), .int .i64 (M 3), .int .i64 (M 4), .int .i64 (M 5), .int .i64 (M 6), .int .i64 (M 7), .int .i64 (M 8), .int .i64 (M 9), .int .i64 (M 10), .int .i64 (M 11)], .agg #[.int .i64 (B 0), .int .i64 (B 1), .int .i64 (B 2), .int .i64 (B 3), .int .i64 (B 4), .int .i64 (B 5)]] w fun e w' => e = .returned (.tuple #[.agg #[.int .i64 0, .int .i64 0, .int .i64 0, .int .i64 0, .int .i64 0, .int .i64 0], .int .i64 1]) ∧ Below w.heap.size w w' := by
  have HO := Lib.hid h
  clear h
  go_enter Try.func12, Try.ntmps12
  go_wp2_with fail
  refine (mright1 HO.out (blkAt (Blk.new _ _ _) (by simp))).mono ?_
  rintro e w1 ⟨rfl, b1⟩
  have KR := Lib.hid (blkAt (((Blk.new ((w.alloc _).alloc _) 33 _).alloc _).keep b1) (g' := w.heap.size + 2) (by simp))
  have B1 := Lib.hid (bthen (balloc (balloc (balloc (alloc_below _ _) _) _) _) b1)
  clear b1
  obtain ⟨c0, c1, c2, c3, c4, c5, f0, f1, f2, f3, f4, f5⟩ := blk6 KR.out
  go_wp2
  exact bodyPost_ret (v := .tuple #[.agg #[.int .i64 0, .int .i64 0, .int .i64 0, .int .i64 0, .int .i64 0, .int .i64 0], .int .i64 1]) (by simp [results, Try.results12, go_sem, c0, c1, c2, c3, c4, c5]) rfl ⟨rfl, bset6 B1.out (by omega)⟩

set_option maxHeartbeats 1000000 in
theorem shcarry_no2 (M B : Nat → Int) (w : World) (h : okM M = true) (h' : okBox B = false) :
    Calls Try.prog 12 #[.agg #[.int .i64 (M 0), .int .i64 (M 1), .int .i64 (M 2), .int .i64 (M 3), .int .i64 (M 4), .int .i64 (M 5), .int .i64 (M 6), .int .i64 (M 7), .int .i64 (M 8), .int .i64 (M 9), .int .i64 (M 10), .int .i64 (M 11)], .agg #[.int .i64 (B 0), .int .i64 (B 1), .int .i64 (B 2), .int .i64 (B 3), .int .i64 (B 4), .int .i64 (B 5)]] w fun e w' => e = .returned (.tuple #[.agg #[.int .i64 0, .int .i64 0, .int .i64 0, .int .i64 0, .int .i64 0, .int .i64 0], .int .i64 1]) ∧ Below w.heap.size w w' := by
  have HO := Lib.hid (And.intro h h')
  clear h h'
  go_enter Try.func12, Try.ntmps12
  go_wp2_with fail
  refine (mright1 HO.out.1 (blkAt (Blk.new _ _ _) (by simp))).mono ?_
  rintro e w1 ⟨rfl, b1⟩
  have KR := Lib.hid (blkAt (((Blk.new ((w.alloc _).alloc _) 33 _).alloc _).keep b1) (g' := w.heap.size + 2) (by simp))
  have KB := Lib.hid (blkAt ((((Blk.new (w.alloc _) 33 _).alloc _).alloc _).keep b1) (g' := w.heap.size + 1) (by simp))
  have B1 := Lib.hid (bthen (balloc (balloc (balloc (alloc_below _ _) _) _) _) b1)
  clear b1
  obtain ⟨d0, d1, d2, d3, d4, d5, _⟩ := blk6 KB.out
  have z := KB.out.lt
  go_wp2_with fail
  refine (shright1 HO.out.2 (blkAt (Blk.new _ _ _) (by simp))).mono ?_
  rintro e w2 ⟨rfl, b2⟩
  replace KR := Lib.hid ((KR.out.alloc _).keep b2)
  replace B1 := Lib.hid (bthen (balloc B1.out _) b2)
  clear b2 d0 d1 d2 d3 d4 d5 z
  obtain ⟨c0, c1, c2, c3, c4, c5, f0, f1, f2, f3, f4, f5⟩ := blk6 KR.out
  go_wp2
  exact bodyPost_ret (v := .tuple #[.agg #[.int .i64 0, .int .i64 0, .int .i64 0, .int .i64 0, .int .i64 0, .int .i64 0], .int .i64 1]) (by simp [results, Try.results12, go_sem, c0, c1, c2, c3, c4, c5]) rfl ⟨rfl, bset6 B1.out (by omega)⟩

set_option maxHeartbeats 2000000 in
theorem shcarry_yes (M B : Nat → Int) (w : World) (h : okM M = true) (h' : okBox B = true) :
    Calls Try.prog 12 #[.agg #[.int .i64 (M 0), .int .i64 (M 1), .int .i64 (M 2), .int .i64 (M 3), .int .i64 (M 4), .int .i64 (M 5), .int .i64 (M 6), .int .i64 (M 7), .int .i64 (M 8), .int .i64 (M 9), .int .i64 (M 10), .int .i64 (M 11)], .agg #[.int .i64 (B 0), .int .i64 (B 1), .int .i64 (B 2), .int .i64 (B 3), .int .i64 (B 4), .int .i64 (B 5)]] w fun e w' => e = .returned (.tuple #[.agg #[.int .i64 (carV M B 0), .int .i64 (carV M B 1), .int .i64 (carV M B 2), .int .i64 (carV M B 3), .int .i64 (carV M B 4), .int .i64 (carV M B 5)], .int .i64 (carE M B)]) ∧ Below w.heap.size w w' := by
  have HO := Lib.hid (And.intro h h')
  clear h h'
  go_enter Try.func12, Try.ntmps12
  go_wp2_with fail
  refine (mright1 HO.out.1 (blkAt (Blk.new _ _ _) (by simp))).mono ?_
  rintro e w1 ⟨rfl, b1⟩
  have KM := Lib.hid (((((Blk.new w 25 _).alloc _).alloc _).alloc _).keep b1)
  have KR := Lib.hid (blkAt (((Blk.new ((w.alloc _).alloc _) 33 _).alloc _).keep b1) (g' := w.heap.size + 2) (by simp))
  have KB := Lib.hid (blkAt ((((Blk.new (w.alloc _) 33 _).alloc _).alloc _).keep b1) (g' := w.heap.size + 1) (by simp))
  have B1 := Lib.hid (bthen (balloc (balloc (balloc (alloc_below _ _) _) _) _) b1)
  clear b1
  obtain ⟨d0, d1, d2, d3, d4, d5, _⟩ := blk6 KB.out
  have z := KB.out.lt
  go_wp2_with fail
  refine (shright1 HO.out.2 (blkAt (Blk.new _ _ _) (by simp))).mono ?_
  rintro e w2 ⟨rfl, b2⟩
  replace KM := Lib.hid ((KM.out.alloc _).keep b2)
  replace KR := Lib.hid ((KR.out.alloc _).keep b2)
  replace KB := Lib.hid ((KB.out.alloc _).keep b2)
  replace B1 := Lib.hid (bthen (balloc B1.out _) b2)
  clear b2 d0 d1 d2 d3 d4 d5 z
  go_wp2
  go_loopw [22] (fun i wr => ∃ k : Nat, k ≤ 3 ∧ i = .int .i64 k ∧ (∀ j, j < k → caE M B j = 0) ∧ wr.rowIs w2.heap.size 33 6 (rowsTo (caK M B) k) ∧ BM wr w.heap.size M ∧ Blk wr (w.heap.size + 1) 33 #[.int .i64 (B 0), .int .i64 (B 1), .int .i64 (B 2), .int .i64 (B 3), .int .i64 (B 4), .int .i64 (B 5)] ∧ Blk wr (w.heap.size + 2) 33 #[.int .i64 0, .int .i64 0, .int .i64 0, .int .i64 0, .int .i64 0, .int .i64 0] ∧ Below w.heap.size w wr) (fun i _ => 3 - (intOf i).toNat)
  case atStart => exact ⟨0, by omega, rfl, fun j hj => by omega, rows_start _ _ _, KM.out.alloc _, KB.out.alloc _, KR.out.alloc _, balloc B1.out _⟩
  case round =>
    have hne : w.heap.size + 2 < w2.heap.size := KR.out.lt
    clear KM KB KR B1
    obtain ⟨r, hr3, rfl, hz, hrow, ha, hbb, hres, hb⟩ := hrel
    have HZ := Lib.hid hz
    have HRow := Lib.hid hrow
    have HM := Lib.hid ha
    have KB := Lib.hid hbb
    have HRes := Lib.hid hres
    have HB := Lib.hid hb
    clear hz hrow ha hbb hres hb
    by_cases hr : r < 3
    · have HOP := Lib.hid (okPlane_row HO.out.1 hr)
      have hr0 : (0 : Int) ≤ (r : Int) := by omega
      have hrd : (r : Int) < 3 := by omega
      have hsM := sizeM M
      have hu := Try.underlying25
      have HS : Hid (∀ w', Below wr.heap.size wr w' → (w'.rangeAt w.heap.size 0 [.int .i64 (M 0), .int .i64 (M 1), .int .i64 (M 2), .int .i64 (M 3), .int .i64 (M 4), .int .i64 (M 5), .int .i64 (M 6), .int .i64 (M 7), .int .i64 (M 8), .int .i64 (M 9), .int .i64 (M 10), .int .i64 (M 11)] ∧ w'.cell? ⟨w.heap.size + 1, 0, none⟩ = some (.int .i64 (B 0)) ∧ w'.cell? ⟨w.heap.size + 1, 1, none⟩ = some (.int .i64 (B 1)) ∧ w'.cell? ⟨w.heap.size + 1, 2, none⟩ = some (.int .i64 (B 2)) ∧ w'.cell? ⟨w.heap.size + 1, 3, none⟩ = some (.int .i64 (B 3)) ∧ w'.cell? ⟨w.heap.size + 1, 4, none⟩ = some (.int .i64 (B 4)) ∧ w'.cell? ⟨w.heap.size + 1, 5, none⟩ = some (.int .i64 (B 5)))) :=
        Lib.hid (fun w' hb => ⟨rangeM (Blk.keep HM.out hb), (KB.out.keep hb).cell 0, (KB.out.keep hb).cell 1, (KB.out.keep hb).cell 2, (KB.out.keep hb).cell 3, (KB.out.keep hb).cell 4, (KB.out.keep hb).cell 5⟩)
      go_wp2
      go_region_held3 (fun w' => w'.rangeAt w.heap.size 0 [.int .i64 (M 0), .int .i64 (M 1), .int .i64 (M 2), .int .i64 (M 3), .int .i64 (M 4), .int .i64 (M 5), .int .i64 (M 6), .int .i64 (M 7), .int .i64 (M 8), .int .i64 (M 9), .int .i64 (M 10), .int .i64 (M 11)] ∧ w'.cell? ⟨w.heap.size + 1, 0, none⟩ = some (.int .i64 (B 0)) ∧ w'.cell? ⟨w.heap.size + 1, 1, none⟩ = some (.int .i64 (B 1)) ∧ w'.cell? ⟨w.heap.size + 1, 2, none⟩ = some (.int .i64 (B 2)) ∧ w'.cell? ⟨w.heap.size + 1, 3, none⟩ = some (.int .i64 (B 3)) ∧ w'.cell? ⟨w.heap.size + 1, 4, none⟩ = some (.int .i64 (B 4)) ∧ w'.cell? ⟨w.heap.size + 1, 5, none⟩ = some (.int .i64 (B 5)))
        (first | exact HS.out _ (bthen (bdrew x1) x2) | exact HS.out _ (bdrew x1) | exact HS.out _ (bdrewn (Below.refl _ _)))
        (first | (go_at_call 30; refine (ends_any (spM M r) B _ HOP.out HO.out.2).mono ?_; rintro e w4 ⟨rfl, x2⟩) | (go_at_call 31; refine (split_any M r _ hr).mono ?_; rintro e w3 ⟨rfl, x1⟩))
      have B3 := Lib.hid (bthen (bdrew x1) x2)
      clear x1 x2 HS
      have HRow2 := Lib.hid (HRow.out.of_block (B3.out.block _ HRow.out.lt))
      have HM2 := Lib.hid (Blk.keep HM.out B3.out)
      have KB2 := Lib.hid (KB.out.keep B3.out)
      have HRes2 := Lib.hid (HRes.out.keep B3.out)
      have HB2 := Lib.hid (bthen HB.out B3.out)
      clear B3 HRow HM KB HRes HB
      obtain ⟨p, hp⟩ : ∃ p, p = enLo (spM M r) B (spM M r 3) := ⟨_, rfl⟩
      obtain ⟨q, hq⟩ : ∃ q, q = enHi (spM M r) B (spM M r 3) := ⟨_, rfl⟩
      obtain ⟨s, hs⟩ : ∃ s, s = enE (spM M r) B (spM M r 3) := ⟨_, rfl⟩
      have HD : Hid (caLo M B r = p ∧ caHi M B r = q ∧ caE M B r = s) := Lib.hid (by rw [hp, hq, hs]; exact ⟨rfl, rfl, rfl⟩)
      rw [← hp, ← hq, ← hs]
      clear hp hq hs
      by_cases he : s = 0
      · have HEk := Lib.hid he
        have he' : (s != 0) = false := by rw [he]; rfl
        clear he
        have rc := HRow2.out.cell (i := r) (by omega)
        have rf := HRow2.out.frozen r
        have rd := (HRow2.out.set r (.int .i64 p)).cell (i := 3 + r) (by omega)
        have rg := (HRow2.out.set r (.int .i64 p)).frozen (3 + r)
        unfold rowsTo at rc rd
        rw [if_neg (by omega)] at rc
        rw [if_neg (by omega), if_neg (by omega)] at rd
        go_wp2
        go_roundw
        case rel => exact ⟨r + 1, by omega, by go_num, err_step HZ.out (by rw [HD.out.2.2]; exact HEk.out), ((HRow2.out.set r _).set (3 + r) _).congr (fun i hi => by rw [← HD.out.1, ← HD.out.2.1, show caLo M B r = caK M B r by unfold caK; rw [if_pos hr], show caHi M B r = caK M B (3 + r) by unfold caK; rw [if_neg (by omega), show 3 + r - 3 = r by omega]]; exact rows_step _ hr hi), (Blk.far HM2.out (by simp <;> omega) _).far (by simp <;> omega) _, (KB2.out.far (by simp <;> omega) _).far (by simp <;> omega) _, (HRes2.out.far (by simp <;> omega) _).far (by simp <;> omega) _, (HB2.out.setCell (by simp <;> omega) _).setCell (by simp <;> omega) _⟩
        case measure => simp [intOf] <;> omega
      · have HEk := Lib.hid he
        have he' : (s != 0) = true := by simpa using he
        clear he HRow2 HM2 KB2
        obtain ⟨c0, c1, c2, c3, c4, c5, f0, f1, f2, f3, f4, f5⟩ := blk6 HRes2.out
        go_wp2
        have e1 : carE M B = s := by
          rw [carE_yes HO.out.1 HO.out.2, ← HD.out.2.2]
          exact first3_at (e := caE M B) hr HZ.out (by rw [HD.out.2.2]; exact HEk.out)
        have e2 : ∀ v, gate s v = 0 := fun v => by unfold gate; rw [if_neg HEk.out]
        exact bodyPost_ret (v := .tuple #[.agg #[.int .i64 0, .int .i64 0, .int .i64 0, .int .i64 0, .int .i64 0, .int .i64 0], .int .i64 s]) (by simp [results, Try.results12, go_sem, c0, c1, c2, c3, c4, c5]) rfl ⟨by rw [carV_of e1, carV_of e1, carV_of e1, carV_of e1, carV_of e1, carV_of e1, e1, e2, e2, e2, e2, e2, e2], bset6 HB2.out (by omega)⟩
    · obtain rfl : r = 3 := by omega
      have e1 : carE M B = 0 := by rw [carE_yes HO.out.1 HO.out.2]; exact first3_none (e := caE M B) HZ.out
      have HE := Lib.hid e1
      clear e1
      have o0 : wr.cell? ⟨w2.heap.size, 0, none⟩ = some (.int .i64 (caK M B 0)) := HRow.out.cell (i := 0) (by omega)
      have o1 : wr.cell? ⟨w2.heap.size, 1, none⟩ = some (.int .i64 (caK M B 1)) := HRow.out.cell (i := 1) (by omega)
      have o2 : wr.cell? ⟨w2.heap.size, 2, none⟩ = some (.int .i64 (caK M B 2)) := HRow.out.cell (i := 2) (by omega)
      have o3 : wr.cell? ⟨w2.heap.size, 3, none⟩ = some (.int .i64 (caK M B 3)) := HRow.out.cell (i := 3) (by omega)
      have o4 : wr.cell? ⟨w2.heap.size, 4, none⟩ = some (.int .i64 (caK M B 4)) := HRow.out.cell (i := 4) (by omega)
      have o5 : wr.cell? ⟨w2.heap.size, 5, none⟩ = some (.int .i64 (caK M B 5)) := HRow.out.cell (i := 5) (by omega)
      obtain ⟨c0, c1, c2, c3, c4, c5, f0, f1, f2, f3, f4, f5⟩ := blk6 HRes.out
      go_wp2
      exact bodyPost_ret (v := .tuple #[.agg #[.int .i64 (caK M B 0), .int .i64 (caK M B 1), .int .i64 (caK M B 2), .int .i64 (caK M B 3), .int .i64 (caK M B 4), .int .i64 (caK M B 5)], .int .i64 0]) (by simp [results, Try.results12, go_sem, c0, c1, c2, c3, c4, c5]) rfl ⟨by rw [carV_of HE.out, carV_of HE.out, carV_of HE.out, carV_of HE.out, carV_of HE.out, carV_of HE.out, HE.out, gate0, gate0, gate0, gate0, gate0, gate0], bset6 HB.out (by omega)⟩

theorem shcarry_any (M B : Nat → Int) (w : World) :
    Calls Try.prog 12 #[.agg #[.int .i64 (M 0), .int .i64 (M 1), .int .i64 (M 2), .int .i64 (M 3), .int .i64 (M 4), .int .i64 (M 5), .int .i64 (M 6), .int .i64 (M 7), .int .i64 (M 8), .int .i64 (M 9), .int .i64 (M 10), .int .i64 (M 11)], .agg #[.int .i64 (B 0), .int .i64 (B 1), .int .i64 (B 2), .int .i64 (B 3), .int .i64 (B 4), .int .i64 (B 5)]] w fun e w' => e = .returned (.tuple #[.agg #[.int .i64 (carV M B 0), .int .i64 (carV M B 1), .int .i64 (carV M B 2), .int .i64 (carV M B 3), .int .i64 (carV M B 4), .int .i64 (carV M B 5)], .int .i64 (carE M B)]) ∧ Below w.heap.size w w' := by
  by_cases h : okM M = true
  · by_cases h' : okBox B = true
    · exact shcarry_yes M B w h h'
    · have h2 : okBox B = false := by simpa using h'
      have h3 : carOk M B = false := by unfold carOk; rw [h2, Bool.and_false]
      rw [carE_no h3, carV_no h3, carV_no h3, carV_no h3, carV_no h3, carV_no h3, carV_no h3]
      exact shcarry_no2 M B w h h2
  · have h2 : okM M = false := by simpa using h
    have h3 : carOk M B = false := by unfold carOk; rw [h2, Bool.false_and]
    rw [carE_no h3, carV_no h3, carV_no h3, carV_no h3, carV_no h3, carV_no h3, carV_no h3]
    exact shcarry_no1 M B w h2

end Go.Proofs.Ythdgldoailjhhaa
