/-
  What package affine's Apply answers, and the reference's.
-/
import Derived.Test.YthdgldoailjhhaaAffH
namespace Go.Proofs.Ythdgldoailjhhaa
open Go.RowKit

def okV3 (V : Nat → Int) : Bool := ok3 (V 0) (V 1) (V 2)
def apK (M V : Nat → Int) (r : Nat) : Int := alV M r V (M (4 * r + 3))
def apEK (M V : Nat → Int) (r : Nat) : Int := alE M r V (M (4 * r + 3))
/-- a matrix applied to a vector -/
def appE (M V : Nat → Int) : Int := if okM M && okV3 V then first3 (apEK M V 0) (apEK M V 1) (apEK M V 2) else 1
def appV (M V : Nat → Int) (r : Nat) : Int := gate (appE M V) (apK M V r)
theorem appE_yes {M V : Nat → Int} (h : okM M = true) (h' : okV3 V = true) : appE M V = first3 (apEK M V 0) (apEK M V 1) (apEK M V 2) := by unfold appE; rw [h, h']; rfl
theorem appE_no {M V : Nat → Int} (h : (okM M && okV3 V) = false) : appE M V = 1 := by unfold appE; rw [h]; rfl
theorem appV_no {M V : Nat → Int} (h : (okM M && okV3 V) = false) (r : Nat) : appV M V r = 0 := by unfold appV; rw [appE_no h]; rfl
theorem appV_of {M V : Nat → Int} {e : Int} (h : appE M V = e) (r : Nat) : appV M V r = gate e (apK M V r) := by unfold appV; rw [h]

theorem mrow1 {w : World} {g : Nat} {t : TypeId} {M : Nat → Int} (h : Blk w g t #[.int .i64 (M 0), .int .i64 (M 1), .int .i64 (M 2), .int .i64 (M 3), .int .i64 (M 4), .int .i64 (M 5), .int .i64 (M 6), .int .i64 (M 7), .int .i64 (M 8), .int .i64 (M 9), .int .i64 (M 10), .int .i64 (M 11)]) : MRow w (some ⟨g, 0, none⟩) 1 [M] := by
  refine ⟨rfl, by omega, Or.inr ⟨_, _, rfl, fun i hi j hj => ?_⟩⟩
  obtain rfl : i = 0 := by omega
  have := h.at12 hj
  simpa using this
theorem mright1 {M : Nat → Int} {b : Bool} (ho : okM M = b) {w : World} {g cap : Nat} {t : TypeId} (h : Blk w g t #[.int .i64 (M 0), .int .i64 (M 1), .int .i64 (M 2), .int .i64 (M 3), .int .i64 (M 4), .int .i64 (M 5), .int .i64 (M 6), .int .i64 (M 7), .int .i64 (M 8), .int .i64 (M 9), .int .i64 (M 10), .int .i64 (M 11)]) :
    Calls Try.prog 29 #[.slice (some ⟨g, 0, none⟩) 1 cap] w fun e w' => e = .returned (.bool b) ∧ Below w.heap.size w w' :=
  (mright_any _ 1 cap [M] w (mrow1 h)).mono fun _ _ ⟨he, hw⟩ => ⟨by rw [he]; unfold rightM; simp [ho], hw⟩
theorem vright1 {V : Nat → Int} {b : Bool} (ho : okV3 V = b) {w : World} {g cap : Nat} {t : TypeId} (h : Blk w g t #[.int .i64 (V 0), .int .i64 (V 1), .int .i64 (V 2)]) :
    Calls Try.prog 26 #[.slice (some ⟨g, 0, none⟩) 1 cap] w fun e w' => e = .returned (.bool b) ∧ Below w.heap.size w w' :=
  (vright_any _ 1 cap [(V 0, V 1, V 2)] w (vrow1 h)).mono fun _ _ ⟨he, hw⟩ => ⟨by rw [he, rightV1]; unfold okV3 at ho; rw [ho], hw⟩
theorem rone3 {V : Nat → Int} {b : Bool} (ho : okV3 V = b) (w : World) :
    Calls Try.prog 36 #[.agg #[.int .i64 (V 0), .int .i64 (V 1), .int .i64 (V 2)]] w fun e w' => e = .returned (.bool b) ∧ Below w.heap.size w w' :=
  (rone_any (V 0) (V 1) (V 2) w).mono fun _ _ ⟨he, hw⟩ => ⟨by rw [he]; unfold okV3 at ho; rw [ho], hw⟩
theorem rmright_b {M : Nat → Int} {b : Bool} (h : okM M = b) (w : World) :
    Calls Try.prog 32 #[.agg #[.int .i64 (M 0), .int .i64 (M 1), .int .i64 (M 2), .int .i64 (M 3), .int .i64 (M 4), .int .i64 (M 5), .int .i64 (M 6), .int .i64 (M 7), .int .i64 (M 8), .int .i64 (M 9), .int .i64 (M 10), .int .i64 (M 11)]] w fun e w' => e = .returned (.bool b) ∧ Below w.heap.size w w' :=
  (rmright_any M w).mono fun _ _ ⟨he, hw⟩ => ⟨by rw [he, h], hw⟩

set_option maxHeartbeats 1000000 in
theorem apply_no (M V : Nat → Int) (w : World) (h : okM M = false) :
    Calls Try.prog 20 #[.agg #[.int .i64 (M 0), .int .i64 (M 1), .int .i64 (M 2), .int .i64 (M 3), .int .i64 (M 4), .int .i64 (M 5), .int .i64 (M 6), .int .i64 (M 7), .int .i64 (M 8), .int .i64 (M 9), .int .i64 (M 10), .int .i64 (M 11)], .agg #[.int .i64 (V 0), .int .i64 (V 1), .int .i64 (V 2)]] w fun e w' => e = .returned (.tuple #[.agg #[.int .i64 0, .int .i64 0, .int .i64 0], .int .i64 1]) ∧ Below w.heap.size w w' := by
  have HO := Lib.hid h
  clear h
  go_enter Try.func20, Try.ntmps20
  go_wp2_with fail
  refine (mright1 HO.out (blkAt (Blk.new _ _ _) (by simp))).mono ?_
  rintro e w1 ⟨rfl, b1⟩
  have KR := Lib.hid (blkAt (((Blk.new ((w.alloc _).alloc _) 27 _).alloc _).keep b1) (g' := w.heap.size + 2) (by simp))
  have B1 := Lib.hid (bthen (balloc (balloc (balloc (alloc_below _ _) _) _) _) b1)
  clear b1
  obtain ⟨c0, c1, c2, f0, f1, f2⟩ := blk3 KR.out
  go_wp2
  exact bodyPost_ret (v := .tuple #[.agg #[.int .i64 0, .int .i64 0, .int .i64 0], .int .i64 1]) (by simp [results, Try.results20, go_sem, c0, c1, c2]) rfl ⟨rfl, bset3 B1.out (by omega)⟩

set_option maxHeartbeats 1000000 in
theorem apply_no2 (M V : Nat → Int) (w : World) (h : okM M = true) (h' : okV3 V = false) :
    Calls Try.prog 20 #[.agg #[.int .i64 (M 0), .int .i64 (M 1), .int .i64 (M 2), .int .i64 (M 3), .int .i64 (M 4), .int .i64 (M 5), .int .i64 (M 6), .int .i64 (M 7), .int .i64 (M 8), .int .i64 (M 9), .int .i64 (M 10), .int .i64 (M 11)], .agg #[.int .i64 (V 0), .int .i64 (V 1), .int .i64 (V 2)]] w fun e w' => e = .returned (.tuple #[.agg #[.int .i64 0, .int .i64 0, .int .i64 0], .int .i64 1]) ∧ Below w.heap.size w w' := by
  have HO := Lib.hid (And.intro h h')
  clear h h'
  go_enter Try.func20, Try.ntmps20
  go_wp2_with fail
  refine (mright1 HO.out.1 (blkAt (Blk.new _ _ _) (by simp))).mono ?_
  rintro e w1 ⟨rfl, b1⟩
  have KR := Lib.hid (blkAt (((Blk.new ((w.alloc _).alloc _) 27 _).alloc _).keep b1) (g' := w.heap.size + 2) (by simp))
  have KV := Lib.hid (blkAt ((((Blk.new (w.alloc _) 27 _).alloc _).alloc _).keep b1) (g' := w.heap.size + 1) (by simp))
  have B1 := Lib.hid (bthen (balloc (balloc (balloc (alloc_below _ _) _) _) _) b1)
  clear b1
  obtain ⟨d0, d1, d2, _, _, _⟩ := blk3 KV.out
  go_wp2_with fail
  refine (vright1 HO.out.2 (Blk.new _ _ _)).mono ?_
  rintro e w2 ⟨rfl, b2⟩
  replace KR := Lib.hid ((KR.out.alloc _).keep b2)
  replace B1 := Lib.hid (bthen (balloc B1.out _) b2)
  clear b2 d0 d1 d2
  obtain ⟨c0, c1, c2, f0, f1, f2⟩ := blk3 KR.out
  go_wp2
  exact bodyPost_ret (v := .tuple #[.agg #[.int .i64 0, .int .i64 0, .int .i64 0], .int .i64 1]) (by simp [results, Try.results20, go_sem, c0, c1, c2]) rfl ⟨rfl, bset3 B1.out (by omega)⟩

set_option maxHeartbeats 2000000 in
theorem apply_yes (M V : Nat → Int) (w : World) (h : okM M = true) (h' : okV3 V = true) :
    Calls Try.prog 20 #[.agg #[.int .i64 (M 0), .int .i64 (M 1), .int .i64 (M 2), .int .i64 (M 3), .int .i64 (M 4), .int .i64 (M 5), .int .i64 (M 6), .int .i64 (M 7), .int .i64 (M 8), .int .i64 (M 9), .int .i64 (M 10), .int .i64 (M 11)], .agg #[.int .i64 (V 0), .int .i64 (V 1), .int .i64 (V 2)]] w fun e w' => e = .returned (.tuple #[.agg #[.int .i64 (appV M V 0), .int .i64 (appV M V 1), .int .i64 (appV M V 2)], .int .i64 (appE M V)]) ∧ Below w.heap.size w w' := by
  have HO := Lib.hid (And.intro h h')
  clear h h'
  go_enter Try.func20, Try.ntmps20
  go_wp2_with fail
  refine (mright1 HO.out.1 (blkAt (Blk.new _ _ _) (by simp))).mono ?_
  rintro e w1 ⟨rfl, b1⟩
  have KM := Lib.hid (((((Blk.new w 25 _).alloc _).alloc _).alloc _).keep b1)
  have KV := Lib.hid (blkAt ((((Blk.new (w.alloc _) 27 _).alloc _).alloc _).keep b1) (g' := w.heap.size + 1) (by simp))
  have KR := Lib.hid (blkAt (((Blk.new ((w.alloc _).alloc _) 27 _).alloc _).keep b1) (g' := w.heap.size + 2) (by simp))
  have B1 := Lib.hid (bthen (balloc (balloc (balloc (alloc_below _ _) _) _) _) b1)
  clear b1
  obtain ⟨d0, d1, d2, _, _, _⟩ := blk3 KV.out
  go_wp2_with fail
  refine (vright1 HO.out.2 (Blk.new _ _ _)).mono ?_
  rintro e w2 ⟨rfl, b2⟩
  replace KM := Lib.hid ((KM.out.alloc _).keep b2)
  replace KV := Lib.hid ((KV.out.alloc _).keep b2)
  replace KR := Lib.hid ((KR.out.alloc _).keep b2)
  replace B1 := Lib.hid (bthen (balloc B1.out _) b2)
  clear b2 d0 d1 d2
  go_wp2
  go_loopw [21] (fun i wr => ∃ k : Nat, k ≤ 3 ∧ i = .int .i64 k ∧ (∀ j, j < k → apEK M V j = 0) ∧ wr.rowIs w2.heap.size 27 3 (laidTo (apK M V) k) ∧ BM wr w.heap.size M ∧ BV3 wr (w.heap.size + 1) V ∧ Blk wr (w.heap.size + 2) 27 #[.int .i64 0, .int .i64 0, .int .i64 0] ∧ Below w.heap.size w wr) (fun i _ => 3 - (intOf i).toNat)
  case atStart => exact ⟨0, by omega, rfl, fun j hj => by omega, laid_start _ _ _, KM.out.alloc _, KV.out.alloc _, KR.out.alloc _, balloc B1.out _⟩
  case round =>
    have hne : w.heap.size + 2 < w2.heap.size := KR.out.lt
    clear KM KV KR B1
    obtain ⟨r, hr3, rfl, hz, hrow, ha, hbv, hres, hb⟩ := hrel
    have HZ := Lib.hid hz
    have HRow := Lib.hid hrow
    have HM := Lib.hid ha
    have HV := Lib.hid hbv
    have HRes := Lib.hid hres
    have HB := Lib.hid hb
    clear hz hrow ha hbv hres hb
    by_cases hr : r < 3
    · obtain ⟨n, hn⟩ : ∃ n, n = 4 * r + 3 := ⟨_, rfl⟩
      have HN := Lib.hid hn
      have hn12 : n < 12 := by omega
      clear hn
      have hr0 : (0 : Int) ≤ (r : Int) := by omega
      have hrd : (r : Int) < 3 := by omega
      have hn0 : (0 : Int) ≤ (n : Int) := by omega
      have hn1 : (n : Int) < 12 := by omega
      have hsA := sizeM M
      have hu := Try.underlying25
      have cm := Blk.at12 HM.out hn12
      obtain ⟨v0, v1, v2, _, _, _⟩ := blk3 HV.out
      obtain ⟨l, hl⟩ : ∃ l, l = M n := ⟨_, rfl⟩
      have HD : Hid (apK M V r = alV M r V l ∧ apEK M V r = alE M r V l) := Lib.hid (by unfold apK apEK; rw [hl, HN.out]; exact ⟨rfl, rfl⟩)
      rw [← hl] at cm
      clear hl
      go_wp2
      go_region_held3 (fun w' => w'.rangeAt w.heap.size 0 [.int .i64 (M 0), .int .i64 (M 1), .int .i64 (M 2), .int .i64 (M 3), .int .i64 (M 4), .int .i64 (M 5), .int .i64 (M 6), .int .i64 (M 7), .int .i64 (M 8), .int .i64 (M 9), .int .i64 (M 10), .int .i64 (M 11)] ∧ w'.cell? ⟨w.heap.size, n, none⟩ = some (.int .i64 l) ∧ w'.cell? ⟨w.heap.size + 1, 0, none⟩ = some (.int .i64 (V 0)) ∧ w'.cell? ⟨w.heap.size + 1, 1, none⟩ = some (.int .i64 (V 1)) ∧ w'.cell? ⟨w.heap.size + 1, 2, none⟩ = some (.int .i64 (V 2))) (first | exact ⟨rangeM (Blk.keep HM.out (bdrew b3)), cell_keepD b3 cm, cell_keepD b3 v0, cell_keepD b3 v1, cell_keepD b3 v2⟩ | exact ⟨rangeM (Blk.drew HM.out), cm, v0, v1, v2⟩)
        (first | (go_at_call 40; refine (at3_of r n _ hr HN.out).mono ?_; rintro e w3 ⟨rfl, rfl⟩) | (go_at_call 39; refine (along_any M r V l _ hr).mono ?_; rintro e w3 ⟨rfl, b3⟩))
      have B3 := Lib.hid (bdrew b3)
      clear b3 cm v0 v1 v2
      have HRow2 := Lib.hid (HRow.out.of_block (B3.out.block _ HRow.out.lt))
      have HM2 := Lib.hid (Blk.keep HM.out B3.out)
      have HV2 := Lib.hid (Blk.keep HV.out B3.out)
      have HRes2 := Lib.hid (Blk.keep HRes.out B3.out)
      have HB2 := Lib.hid (bthen HB.out B3.out)
      clear B3 HRow HM HV HRes HB
      obtain ⟨x, hx⟩ : ∃ x, x = alV M r V l := ⟨_, rfl⟩
      obtain ⟨y, hy⟩ : ∃ y, y = alE M r V l := ⟨_, rfl⟩
      rw [← hx, ← hy] at HD
      rw [← hx, ← hy]
      clear hx hy
      by_cases he : y = 0
      · have HEk := Lib.hid he
        have he' : (y != 0) = false := by rw [he]; rfl
        clear he
        have rc := HRow2.out.cell hr
        have rf := HRow2.out.frozen r
        unfold laidTo at rc
        simp only [Nat.lt_irrefl, if_false] at rc
        go_wp2
        go_roundw
        case rel => exact ⟨r + 1, by omega, by go_num, err_step HZ.out (by rw [HD.out.2]; exact HEk.out), (HRow2.out.set r _).congr (fun i _ => by rw [← HD.out.1]; exact laid_step _ r i), HM2.out.far (by simp <;> omega) _, HV2.out.far (by simp <;> omega) _, HRes2.out.far (by simp <;> omega) _, HB2.out.setCell (by simp <;> omega) _⟩
        case measure => simp [intOf] <;> omega
      · have HEk := Lib.hid he
        have he' : (y != 0) = true := by simpa using he
        clear he HRow2 HM2 HV2
        obtain ⟨c0, c1, c2, f0, f1, f2⟩ := blk3 HRes2.out
        go_wp2
        have e1 : appE M V = y := by
          rw [appE_yes HO.out.1 HO.out.2, ← HD.out.2]
          exact first3_at (e := apEK M V) hr HZ.out (by rw [HD.out.2]; exact HEk.out)
        have e2 : ∀ v, gate y v = 0 := fun v => by unfold gate; rw [if_neg HEk.out]
        exact bodyPost_ret (v := .tuple #[.agg #[.int .i64 0, .int .i64 0, .int .i64 0], .int .i64 y]) (by simp [results, Try.results20, go_sem, c0, c1, c2]) rfl ⟨by rw [appV_of e1, appV_of e1, appV_of e1, e1, e2, e2, e2], bset3 HB2.out (by omega)⟩
    · obtain rfl : r = 3 := by omega
      have e1 : appE M V = 0 := by rw [appE_yes HO.out.1 HO.out.2]; exact first3_none (e := apEK M V) HZ.out
      have HE := Lib.hid e1
      clear e1
      have o0 : wr.cell? ⟨w2.heap.size, 0, none⟩ = some (.int .i64 (apK M V 0)) := HRow.out.cell (i := 0) (by omega)
      have o1 : wr.cell? ⟨w2.heap.size, 1, none⟩ = some (.int .i64 (apK M V 1)) := HRow.out.cell (i := 1) (by omega)
      have o2 : wr.cell? ⟨w2.heap.size, 2, none⟩ = some (.int .i64 (apK M V 2)) := HRow.out.cell (i := 2) (by omega)
      obtain ⟨c0, c1, c2, f0, f1, f2⟩ := blk3 HRes.out
      go_wp2
      exact bodyPost_ret (v := .tuple #[.agg #[.int .i64 (apK M V 0), .int .i64 (apK M V 1), .int .i64 (apK M V 2)], .int .i64 0]) (by simp [results, Try.results20, go_sem, c0, c1, c2]) rfl ⟨by rw [appV_of HE.out, appV_of HE.out, appV_of HE.out, HE.out, gate0, gate0, gate0], bset3 HB.out (by omega)⟩

theorem apply_any (M V : Nat → Int) (w : World) :
    Calls Try.prog 20 #[.agg #[.int .i64 (M 0), .int .i64 (M 1), .int .i64 (M 2), .int .i64 (M 3), .int .i64 (M 4), .int .i64 (M 5), .int .i64 (M 6), .int .i64 (M 7), .int .i64 (M 8), .int .i64 (M 9), .int .i64 (M 10), .int .i64 (M 11)], .agg #[.int .i64 (V 0), .int .i64 (V 1), .int .i64 (V 2)]] w fun e w' => e = .returned (.tuple #[.agg #[.int .i64 (appV M V 0), .int .i64 (appV M V 1), .int .i64 (appV M V 2)], .int .i64 (appE M V)]) ∧ Below w.heap.size w w' := by
  by_cases h : okM M = true
  · by_cases h' : okV3 V = true
    · exact apply_yes M V w h h'
    · have h2 : okV3 V = false := by simpa using h'
      have h3 : (okM M && okV3 V) = false := by rw [h2, Bool.and_false]
      rw [appE_no h3, appV_no h3, appV_no h3, appV_no h3]
      exact apply_no2 M V w h h2
  · have h2 : okM M = false := by simpa using h
    have h3 : (okM M && okV3 V) = false := by rw [h2]; rfl
    rw [appE_no h3, appV_no h3, appV_no h3, appV_no h3]
    exact apply_no M V w h2

end Go.Proofs.Ythdgldoailjhhaa
