/-
  6 texts in one file, each with its own heading.
-/
import Derived.Test.YtffbehcbokmpkaaML08
import Derived.Test.YtffbehcbokmpkaaML03
/-
  What package shape's Right, Plane and In answer.
-/
namespace Go.Proofs.Ytffbehcbokmpkaa
open Go.RowKit

theorem okBox_as (B : Nat → Int) : okBox B = (rightV [(B 0, B 1, B 2), (B 3, B 4, B 5)] && (bet lessB (B 0) (B 3) == B 0 && bet lessB (B 1) (B 4) == B 1 && bet lessB (B 2) (B 5) == B 2)) := by
  have e : ∀ a b : Int, (bet lessB a b == a) = decide (a ≤ b) := fun a b => by
    rw [bet_less]
    by_cases c : a ≤ b
    · rw [show min a b = a by omega, decide_eq_true c]; simp
    · rw [decide_eq_false c]; simp; omega
  rw [e, e, e]
  unfold okBox boxTo boxTo boxTo boxTo
  cases rightV [(B 0, B 1, B 2), (B 3, B 4, B 5)] <;> simp [Bool.and_assoc]
theorem vright_b {a : Option Addr} {len cap : Nat} {vs : List V3} {w : World} {b : Bool} (hr : rightV vs = b) (row : VRow w a len vs) :
    Calls Try.prog 51 #[.slice a len cap] w fun e w' => e = .returned (.bool b) ∧ Below w.heap.size w w' :=
  (vright_any a len cap vs w row).mono fun _ _ ⟨he, hw⟩ => ⟨by rw [he, hr], hw⟩
set_option maxHeartbeats 2000000 in
theorem shright_any (a : Option Addr) (len cap : Nat) (Bs : List (Nat → Int)) (w : World) (row : BRow w a len Bs) :
    Calls Try.prog 33 #[.slice a len cap] w fun e w' => e = .returned (.bool (rightBx Bs)) ∧ Below w.heap.size w w' := by
  have HL := Lib.hid row.1
  have hbig := row.2.1
  have HRow := Lib.hid row
  clear row
  go_enter Try.func33, Try.ntmps33
  go_wp2
  go_loopw [4, 7] (fun _ i wr => ∃ k : Nat, k ≤ len ∧ i = .int .i64 k ∧ rightBx (Bs.take k) = true ∧ Below w.heap.size w wr) (fun _ i _ => len - (intOf i).toNat)
  case atStart => exact ⟨0, Nat.zero_le _, rfl, rfl, Below.refl _ _⟩
  case round =>
    obtain ⟨k, hk, rfl, hr, hb⟩ := hrel
    have HR := Lib.hid hr
    have HB := Lib.hid hb
    clear hr hb
    by_cases hlt : k < len
    · obtain ⟨b, off, B, rfl, hv, m0, m1, m2, m3, m4, m5⟩ := (brow_keep HRow.out HB.out).at_ hlt
      have HV := Lib.hid hv
      clear hv
      have HS : Hid (∀ w', Below (wr.alloc (.cells #[.int .i64 (B 0), .int .i64 (B 1), .int .i64 (B 2), .int .i64 (B 3), .int .i64 (B 4), .int .i64 (B 5)] 30)).heap.size (wr.alloc (.cells #[.int .i64 (B 0), .int .i64 (B 1), .int .i64 (B 2), .int .i64 (B 3), .int .i64 (B 4), .int .i64 (B 5)] 30)) w' → (w'.cell? ⟨wr.heap.size, 0, none⟩ = some (.int .i64 (B 0)) ∧ w'.cell? ⟨wr.heap.size, 1, none⟩ = some (.int .i64 (B 1)) ∧ w'.cell? ⟨wr.heap.size, 2, none⟩ = some (.int .i64 (B 2)) ∧ w'.cell? ⟨wr.heap.size, 3, none⟩ = some (.int .i64 (B 3)) ∧ w'.cell? ⟨wr.heap.size, 4, none⟩ = some (.int .i64 (B 4)) ∧ w'.cell? ⟨wr.heap.size, 5, none⟩ = some (.int .i64 (B 5)))) :=
        Lib.hid (fun w' hb => ⟨((Blk.new wr _ _).keep hb).cell 0, ((Blk.new wr _ _).keep hb).cell 1, ((Blk.new wr _ _).keep hb).cell 2, ((Blk.new wr _ _).keep hb).cell 3, ((Blk.new wr _ _).keep hb).cell 4, ((Blk.new wr _ _).keep hb).cell 5⟩)
      obtain ⟨p0, p1, p2, hp⟩ : ∃ p0 p1 p2, pk lessB [(B 0, B 1, B 2), (B 3, B 4, B 5)] = (p0, p1, p2) := ⟨_, _, _, rfl⟩
      have hok := okBox_as B
      obtain ⟨q0, hq⟩ : bet lessB (B 0) (B 3) = p0 ∧ bet lessB (B 1) (B 4) = p1 ∧ bet lessB (B 2) (B 5) = p2 := by
        have h3 : (bet lessB (B 0) (B 3), bet lessB (B 1) (B 4), bet lessB (B 2) (B 5)) = (p0, p1, p2) := hp
        simpa using h3
      rw [q0, hq.1, hq.2] at hok
      have HP := Lib.hid hp
      have HOk := Lib.hid hok
      clear hp hok q0 hq
      have heq := eqVec
      by_cases hr2 : rightV [(B 0, B 1, B 2), (B 3, B 4, B 5)] = true
      · have HR2 := Lib.hid hr2
        clear hr2
        by_cases hmn : (p0 == B 0 && p1 == B 1 && p2 == B 2) = true
        · go_wp2
          go_region_held3 (fun w' => w'.cell? ⟨wr.heap.size, 0, none⟩ = some (.int .i64 (B 0)) ∧ w'.cell? ⟨wr.heap.size, 1, none⟩ = some (.int .i64 (B 1)) ∧ w'.cell? ⟨wr.heap.size, 2, none⟩ = some (.int .i64 (B 2)) ∧ w'.cell? ⟨wr.heap.size, 3, none⟩ = some (.int .i64 (B 3)) ∧ w'.cell? ⟨wr.heap.size, 4, none⟩ = some (.int .i64 (B 4)) ∧ w'.cell? ⟨wr.heap.size, 5, none⟩ = some (.int .i64 (B 5)))
            (first | exact HS.out _ (bthen (balloc (bthen (alloc_below _ _) (bdrew c1)) _) c2) | exact HS.out _ (balloc (bthen (alloc_below _ _) (bdrew c1)) _) | exact HS.out _ (bthen (alloc_below _ _) (bdrew c1)) | exact HS.out _ (bdrewn (alloc_below _ _)) | exact HS.out _ (bdrewn (Below.refl _ _)))
            (first | (go_at_call 52; refine (pick_xyz_l _ _ _ p0 p1 p2 HP.out (vrow2 (Blk.new _ _ _))).mono ?_; rintro e w2 ⟨rfl, c2⟩) | (go_at_call 51; refine (vright_b HR2.out (vrow2 (Blk.drew (blkAt (Blk.new _ _ _) (by simp))))).mono ?_; rintro e w1 ⟨rfl, c1⟩))
          have B2 := Lib.hid (bthen (balloc (bthen (balloc (balloc HB.out _) _) (bdrew c1)) _) c2)
          have HG := Lib.hid (show okBox B = true by rw [HOk.out, HR2.out, hmn]; rfl)
          clear c1 c2 hmn m0 m1 m2 m3 m4 m5
          go_wp2
          go_roundw
          case rel => exact ⟨k + 1, by omega, by go_num, rightBx_succ HV.out HR.out HG.out, B2.out⟩
          case measure => simp [intOf] <;> omega
        · have hmn' : (p0 == B 0 && p1 == B 1 && p2 == B 2) = false := by simpa using hmn
          clear hmn
          go_wp2
          go_region_held3 (fun w' => w'.cell? ⟨wr.heap.size, 0, none⟩ = some (.int .i64 (B 0)) ∧ w'.cell? ⟨wr.heap.size, 1, none⟩ = some (.int .i64 (B 1)) ∧ w'.cell? ⟨wr.heap.size, 2, none⟩ = some (.int .i64 (B 2)) ∧ w'.cell? ⟨wr.heap.size, 3, none⟩ = some (.int .i64 (B 3)) ∧ w'.cell? ⟨wr.heap.size, 4, none⟩ = some (.int .i64 (B 4)) ∧ w'.cell? ⟨wr.heap.size, 5, none⟩ = some (.int .i64 (B 5)))
            (first | exact HS.out _ (bthen (balloc (bthen (alloc_below _ _) (bdrew c1)) _) c2) | exact HS.out _ (balloc (bthen (alloc_below _ _) (bdrew c1)) _) | exact HS.out _ (bthen (alloc_below _ _) (bdrew c1)) | exact HS.out _ (bdrewn (alloc_below _ _)) | exact HS.out _ (bdrewn (Below.refl _ _)))
            (first | (go_at_call 52; refine (pick_xyz_l _ _ _ p0 p1 p2 HP.out (vrow2 (Blk.new _ _ _))).mono ?_; rintro e w2 ⟨rfl, c2⟩) | (go_at_call 51; refine (vright_b HR2.out (vrow2 (Blk.drew (blkAt (Blk.new _ _ _) (by simp))))).mono ?_; rintro e w1 ⟨rfl, c1⟩))
          have B2 := Lib.hid (bthen (balloc (bthen (balloc (balloc HB.out _) _) (bdrew c1)) _) c2)
          have HG := Lib.hid (show okBox B = false by rw [HOk.out, HR2.out, hmn']; rfl)
          clear c1 c2 hmn' m0 m1 m2 m3 m4 m5
          go_wp2
          go_ret
          exact ⟨by rw [rightBx_bad HV.out HG.out]; rfl, B2.out⟩
      · have hr3 : rightV [(B 0, B 1, B 2), (B 3, B 4, B 5)] = false := by simpa using hr2
        have HR2 := Lib.hid hr3
        clear hr2 hr3
        go_wp2
        refine wp_region_held_drew (S := (fun w' => w'.cell? ⟨wr.heap.size, 0, none⟩ = some (.int .i64 (B 0)) ∧ w'.cell? ⟨wr.heap.size, 1, none⟩ = some (.int .i64 (B 1)) ∧ w'.cell? ⟨wr.heap.size, 2, none⟩ = some (.int .i64 (B 2)) ∧ w'.cell? ⟨wr.heap.size, 3, none⟩ = some (.int .i64 (B 3)) ∧ w'.cell? ⟨wr.heap.size, 4, none⟩ = some (.int .i64 (B 4)) ∧ w'.cell? ⟨wr.heap.size, 5, none⟩ = some (.int .i64 (B 5)))) (by kernel_rfl) (HS.out _ (bdrewn (Below.refl _ _))) (fun hHeld => ?_)
        refine wpAnyH_take (i := 0) (v := ?_) rfl (by kernel_rfl) (by kernel_rfl) (by kernel_rfl) (fun _ _ _ h => h) (Or.inl ⟨by rfl, ?_⟩) hHeld ?_
        rotate_left
        · rintro w ⟨s0, s1, s2, s3, s4, s5⟩
          go_simp
          with_reducible rfl
        simp only [Act.put, List.getElem_toArray, List.getElem_cons_zero, List.setIfInBounds_toArray, List.set_cons_zero, List.set_cons_succ]
        refine wpAnyH_take (i := 1) (v := ?_) rfl (by kernel_rfl) (by kernel_rfl) (by kernel_rfl) (fun _ _ _ h => h) (Or.inl ⟨by rfl, ?_⟩) hHeld ?_
        rotate_left
        · rintro w ⟨s0, s1, s2, s3, s4, s5⟩
          go_simp
          with_reducible rfl
        simp only [Act.put, List.getElem_toArray, List.getElem_cons_zero, List.getElem_cons_succ, List.setIfInBounds_toArray, List.set_cons_zero, List.set_cons_succ]
        refine wpAnyH_take (i := 2) (v := ?_) rfl (by kernel_rfl) (by kernel_rfl) (by kernel_rfl) (fun _ _ _ h => h) (Or.inl ⟨by rfl, ?_⟩) hHeld ?_
        rotate_left
        · rintro w ⟨s0, s1, s2, s3, s4, s5⟩
          go_simp
          with_reducible rfl
        simp only [Act.put, List.getElem_toArray, List.getElem_cons_zero, List.getElem_cons_succ, List.setIfInBounds_toArray, List.set_cons_zero, List.set_cons_succ]
        refine wpAnyH_take (i := 3) (v := ?_) rfl (by kernel_rfl) (by kernel_rfl) (by kernel_rfl) (fun _ _ _ h => h) (Or.inl ⟨by rfl, ?_⟩) hHeld ?_
        rotate_left
        · rintro w ⟨s0, s1, s2, s3, s4, s5⟩
          go_simp
          with_reducible rfl
        simp only [Act.put, List.getElem_toArray, List.getElem_cons_zero, List.getElem_cons_succ, List.setIfInBounds_toArray, List.set_cons_zero, List.set_cons_succ]
        refine rd 4 (fun K hK => ?_)
        go_simp
        refine hK.out _ _ (HS.out _ (bdrewn (alloc_below _ _))) (fun hHeld => ?_)
        clear hK K
        refine rd 5 (fun K hK => ?_)
        go_simp
        go_at_call 51
        refine (vright_b HR2.out (vrow2 (Blk.drew (blkAt (Blk.new _ _ _) (by simp))))).mono ?_
        rintro e w1 ⟨rfl, c1⟩
        go_wp2_with fail
        refine hK.out _ _ (HS.out _ (bthen (alloc_below _ _) (bdrew c1))) (fun hHeld => ?_)
        clear hK K
        refine tk 6 hHeld ?_
        refine tk 7 hHeld ?_
        refine tks 8 hHeld ?_
        refine tks 9 hHeld ?_
        refine tks 10 hHeld ?_
        refine tks 11 hHeld ?_
        refine tks 12 hHeld ?_
        refine tks 13 hHeld ?_
        refine tks 14 hHeld ?_
        refine tks 15 hHeld ?_
        refine tks 16 hHeld ?_
        refine tk 17 hHeld ?_
        refine wpAnyH_done (by kernel_rfl) ?_ _
        clear hHeld
        have B2 := Lib.hid (bthen (balloc (balloc HB.out _) _) (bdrew c1))
        have HG := Lib.hid (show okBox B = false by rw [HOk.out, HR2.out]; rfl)
        clear c1 m0 m1 m2 m3 m4 m5
        go_wp2
        go_ret
        exact ⟨by rw [rightBx_bad HV.out HG.out]; rfl, B2.out⟩
    · obtain rfl : k = len := by omega
      go_wp2
      go_ret
      exact ⟨by rw [show Bs = Bs.take k from (List.take_of_length_le (by rw [HL.out]; exact Nat.le_refl _)).symm, HR.out]; rfl, HB.out⟩

theorem brow1 {w : World} {g : Nat} {t : TypeId} {B : Nat → Int} (h : Blk w g t #[.int .i64 (B 0), .int .i64 (B 1), .int .i64 (B 2), .int .i64 (B 3), .int .i64 (B 4), .int .i64 (B 5)]) : BRow w (some ⟨g, 0, none⟩) 1 [B] := by
  refine ⟨rfl, by omega, Or.inr ⟨_, _, rfl, fun i hi j hj => ?_⟩⟩
  obtain rfl : i = 0 := by omega
  rcases lt6 hj with rfl | rfl | rfl | rfl | rfl | rfl
  · exact h.cell 0
  · exact h.cell 1
  · exact h.cell 2
  · exact h.cell 3
  · exact h.cell 4
  · exact h.cell 5
theorem shright1 {B : Nat → Int} {b : Bool} (ho : okBox B = b) {w : World} {g cap : Nat} {t : TypeId} (h : Blk w g t #[.int .i64 (B 0), .int .i64 (B 1), .int .i64 (B 2), .int .i64 (B 3), .int .i64 (B 4), .int .i64 (B 5)]) :
    Calls Try.prog 33 #[.slice (some ⟨g, 0, none⟩) 1 cap] w fun e w' => e = .returned (.bool b) ∧ Below w.heap.size w w' :=
  (shright_any _ 1 cap [B] w (brow1 h)).mono fun _ _ ⟨he, hw⟩ => ⟨by rw [he]; unfold rightBx; simp [ho], hw⟩
theorem okPlane_row {M : Nat → Int} (h : okM M = true) {r : Nat} (hr : r < 3) : okPlane (spM M r) = true := by
  unfold okPlane rightB spM
  simp [okM_at h (k := 4 * r + 1) (by omega), okM_at h (k := 4 * r + 2) (by omega), okM_at h (k := 4 * r + 3) (by omega)]
  exact okM_at h (k := 4 * r) (by omega)

set_option maxHeartbeats 1000000 in
set_option maxRecDepth 100000 in
theorem shcarry_no1 (M B : Nat → Int) (w : World) (h : okM M = false) :
    Calls Try.prog 18 #[.agg #[.int .i64 (M 0), .int .i64 (M 1), .int .i64 (M 2), .int .i64 (M 3), .int .i64 (M 4), .int .i64 (M 5), .int .i64 (M 6), .int .i64 (M 7), .int .i64 (M 8), .int .i64 (M 9), .int .i64 (M 10), .int .i64 (M 11)], .agg #[.int .i64 (B 0), .int .i64 (B 1), .int .i64 (B 2), .int .i64 (B 3), .int .i64 (B 4), .int .i64 (B 5)]] w fun e w' => e = .returned (.tuple #[.agg #[.int .i64 0, .int .i64 0, .int .i64 0, .int .i64 0, .int .i64 0, .int .i64 0], .int .i64 1]) ∧ Below w.heap.size w w' := by
  have HO := Lib.hid h
  clear h
  go_enter Try.func18, Try.ntmps18
  go_wp2_with fail
  refine (mright1 HO.out (blkAt (Blk.new _ _ _) (by simp))).mono ?_
  rintro e w1 ⟨rfl, b1⟩
  have KR := Lib.hid (blkAt (((Blk.new ((w.alloc _).alloc _) 30 _).alloc _).keep b1) (g' := w.heap.size + 2) (by simp))
  have B1 := Lib.hid (bthen (balloc (balloc (balloc (alloc_below _ _) _) _) _) b1)
  clear b1
  obtain ⟨c0, c1, c2, c3, c4, c5, f0, f1, f2, f3, f4, f5⟩ := blk6 KR.out
  go_wp2
  exact bodyPost_ret (v := .tuple #[.agg #[.int .i64 0, .int .i64 0, .int .i64 0, .int .i64 0, .int .i64 0, .int .i64 0], .int .i64 1]) (by simp [results, Try.results18, go_sem, c0, c1, c2, c3, c4, c5]) rfl ⟨rfl, bset6 B1.out (by omega)⟩

set_option maxHeartbeats 1000000 in
set_option maxRecDepth 100000 in
theorem shcarry_no2 (M B : Nat → Int) (w : World) (h : okM M = true) (h' : okBox B = false) :
    Calls Try.prog 18 #[.agg #[.int .i64 (M 0), .int .i64 (M 1), .int .i64 (M 2), .int .i64 (M 3), .int .i64 (M 4), .int .i64 (M 5), .int .i64 (M 6), .int .i64 (M 7), .int .i64 (M 8), .int .i64 (M 9), .int .i64 (M 10), .int .i64 (M 11)], .agg #[.int .i64 (B 0), .int .i64 (B 1), .int .i64 (B 2), .int .i64 (B 3), .int .i64 (B 4), .int .i64 (B 5)]] w fun e w' => e = .returned (.tuple #[.agg #[.int .i64 0, .int .i64 0, .int .i64 0, .int .i64 0, .int .i64 0, .int .i64 0], .int .i64 1]) ∧ Below w.heap.size w w' := by
  have HO := Lib.hid (And.intro h h')
  clear h h'
  go_enter Try.func18, Try.ntmps18
  go_wp2_with fail
  refine (mright1 HO.out.1 (blkAt (Blk.new _ _ _) (by simp))).mono ?_
  rintro e w1 ⟨rfl, b1⟩
  have KR := Lib.hid (blkAt (((Blk.new ((w.alloc _).alloc _) 30 _).alloc _).keep b1) (g' := w.heap.size + 2) (by simp))
  have KB := Lib.hid (blkAt ((((Blk.new (w.alloc _) 30 _).alloc _).alloc _).keep b1) (g' := w.heap.size + 1) (by simp))
  have B1 := Lib.hid (bthen (balloc (balloc (balloc (alloc_below _ _) _) _) _) b1)
  clear b1
  obtain ⟨d0, d1, d2, d3, d4, d5, _⟩ := blk6 KB.out
  have z := KB.out.lt
  go_wp2_with fail
  refine (shright1 HO.out.2 (blkAt (Blk.new _ _ _) (by simp))).mono ?_
  rintro e w2 ⟨rfl, b2⟩
  replace KR := Lib.hid ((KR.out.alloc _).keep b2)
  replace B1 := Lib.hid (bthen (balloc B1.out _) b2)
  clear b2 d0 d1 d2 d3 d4 d5 z
  obtain ⟨c0, c1, c2, c3, c4, c5, f0, f1, f2, f3, f4, f5⟩ := blk6 KR.out
  go_wp2
  exact bodyPost_ret (v := .tuple #[.agg #[.int .i64 0, .int .i64 0, .int .i64 0, .int .i64 0, .int .i64 0, .int .i64 0], .int .i64 1]) (by simp [results, Try.results18, go_sem, c0, c1, c2, c3, c4, c5]) rfl ⟨rfl, bset6 B1.out (by omega)⟩

set_option maxHeartbeats 2000000 in
set_option maxRecDepth 100000 in
theorem shcarry_yes (M B : Nat → Int) (w : World) (h : okM M = true) (h' : okBox B = true) :
    Calls Try.prog 18 #[.agg #[.int .i64 (M 0), .int .i64 (M 1), .int .i64 (M 2), .int .i64 (M 3), .int .i64 (M 4), .int .i64 (M 5), .int .i64 (M 6), .int .i64 (M 7), .int .i64 (M 8), .int .i64 (M 9), .int .i64 (M 10), .int .i64 (M 11)], .agg #[.int .i64 (B 0), .int .i64 (B 1), .int .i64 (B 2), .int .i64 (B 3), .int .i64 (B 4), .int .i64 (B 5)]] w fun e w' => e = .returned (.tuple #[.agg #[.int .i64 (carV M B 0), .int .i64 (carV M B 1), .int .i64 (carV M B 2), .int .i64 (carV M B 3), .int .i64 (carV M B 4), .int .i64 (carV M B 5)], .int .i64 (carE M B)]) ∧ Below w.heap.size w w' := by
  have HO := Lib.hid (And.intro h h')
  clear h h'
  go_enter Try.func18, Try.ntmps18
  go_wp2_with fail
  refine (mright1 HO.out.1 (blkAt (Blk.new _ _ _) (by simp))).mono ?_
  rintro e w1 ⟨rfl, b1⟩
  have KM := Lib.hid (((((Blk.new w 26 _).alloc _).alloc _).alloc _).keep b1)
  have KR := Lib.hid (blkAt (((Blk.new ((w.alloc _).alloc _) 30 _).alloc _).keep b1) (g' := w.heap.size + 2) (by simp))
  have KB := Lib.hid (blkAt ((((Blk.new (w.alloc _) 30 _).alloc _).alloc _).keep b1) (g' := w.heap.size + 1) (by simp))
  have B1 := Lib.hid (bthen (balloc (balloc (balloc (alloc_below _ _) _) _) _) b1)
  clear b1
  obtain ⟨d0, d1, d2, d3, d4, d5, _⟩ := blk6 KB.out
  have z := KB.out.lt
  go_wp2_with fail
  refine (shright1 HO.out.2 (blkAt (Blk.new _ _ _) (by simp))).mono ?_
  rintro e w2 ⟨rfl, b2⟩
  replace KM := Lib.hid ((KM.out.alloc _).keep b2)
  replace KR := Lib.hid ((KR.out.alloc _).keep b2)
  replace KB := Lib.hid ((KB.out.alloc _).keep b2)
  replace B1 := Lib.hid (bthen (balloc B1.out _) b2)
  clear b2 d0 d1 d2 d3 d4 d5 z
  go_wp2
  go_loopw [22] (fun i wr => ∃ k : Nat, k ≤ 3 ∧ i = .int .i64 k ∧ (∀ j, j < k → caE M B j = 0) ∧ wr.rowIs w2.heap.size 30 6 (rowsTo (caK M B) k) ∧ BM wr w.heap.size M ∧ Blk wr (w.heap.size + 1) 30 #[.int .i64 (B 0), .int .i64 (B 1), .int .i64 (B 2), .int .i64 (B 3), .int .i64 (B 4), .int .i64 (B 5)] ∧ Blk wr (w.heap.size + 2) 30 #[.int .i64 0, .int .i64 0, .int .i64 0, .int .i64 0, .int .i64 0, .int .i64 0] ∧ Below w.heap.size w wr) (fun i _ => 3 - (intOf i).toNat)
  case atStart => exact ⟨0, by omega, rfl, fun j hj => by omega, rows_start _ _ _, KM.out.alloc _, KB.out.alloc _, KR.out.alloc _, balloc B1.out _⟩
  case round =>
    have hne : w.heap.size + 2 < w2.heap.size := KR.out.lt
    clear KM KB KR B1
    obtain ⟨r, hr3, rfl, hz, hrow, ha, hbb, hres, hb⟩ := hrel
    have HZ := Lib.hid hz
    have HRow := Lib.hid hrow
    have HM := Lib.hid ha
    have KB := Lib.hid hbb
    have HRes := Lib.hid hres
    have HB := Lib.hid hb
    clear hz hrow ha hbb hres hb
    by_cases hr : r < 3
    · have HOP := Lib.hid (okPlane_row HO.out.1 hr)
      have hr0 : (0 : Int) ≤ (r : Int) := by omega
      have hrd : (r : Int) < 3 := by omega
      have hsM := sizeM M
      have hu := Try.underlying26
      have HS : Hid (∀ w', Below wr.heap.size wr w' → (w'.rangeAt w.heap.size 0 [.int .i64 (M 0), .int .i64 (M 1), .int .i64 (M 2), .int .i64 (M 3), .int .i64 (M 4), .int .i64 (M 5), .int .i64 (M 6), .int .i64 (M 7), .int .i64 (M 8), .int .i64 (M 9), .int .i64 (M 10), .int .i64 (M 11)] ∧ w'.cell? ⟨w.heap.size + 1, 0, none⟩ = some (.int .i64 (B 0)) ∧ w'.cell? ⟨w.heap.size + 1, 1, none⟩ = some (.int .i64 (B 1)) ∧ w'.cell? ⟨w.heap.size + 1, 2, none⟩ = some (.int .i64 (B 2)) ∧ w'.cell? ⟨w.heap.size + 1, 3, none⟩ = some (.int .i64 (B 3)) ∧ w'.cell? ⟨w.heap.size + 1, 4, none⟩ = some (.int .i64 (B 4)) ∧ w'.cell? ⟨w.heap.size + 1, 5, none⟩ = some (.int .i64 (B 5)))) :=
        Lib.hid (fun w' hb => ⟨rangeM (Blk.keep HM.out hb), (KB.out.keep hb).cell 0, (KB.out.keep hb).cell 1, (KB.out.keep hb).cell 2, (KB.out.keep hb).cell 3, (KB.out.keep hb).cell 4, (KB.out.keep hb).cell 5⟩)
      go_wp2
      go_region_held3 (fun w' => w'.rangeAt w.heap.size 0 [.int .i64 (M 0), .int .i64 (M 1), .int .i64 (M 2), .int .i64 (M 3), .int .i64 (M 4), .int .i64 (M 5), .int .i64 (M 6), .int .i64 (M 7), .int .i64 (M 8), .int .i64 (M 9), .int .i64 (M 10), .int .i64 (M 11)] ∧ w'.cell? ⟨w.heap.size + 1, 0, none⟩ = some (.int .i64 (B 0)) ∧ w'.cell? ⟨w.heap.size + 1, 1, none⟩ = some (.int .i64 (B 1)) ∧ w'.cell? ⟨w.heap.size + 1, 2, none⟩ = some (.int .i64 (B 2)) ∧ w'.cell? ⟨w.heap.size + 1, 3, none⟩ = some (.int .i64 (B 3)) ∧ w'.cell? ⟨w.heap.size + 1, 4, none⟩ = some (.int .i64 (B 4)) ∧ w'.cell? ⟨w.heap.size + 1, 5, none⟩ = some (.int .i64 (B 5)))
        (first | exact HS.out _ (bthen (bdrew x1) x2) | exact HS.out _ (bdrew x1) | exact HS.out _ (bdrewn (Below.refl _ _)))
        (first | (go_at_call 34; refine (ends_any (spM M r) B _ HOP.out HO.out.2).mono ?_; rintro e w4 ⟨rfl, x2⟩) | (go_at_call 35; refine (split_any M r _ hr).mono ?_; rintro e w3 ⟨rfl, x1⟩))
      have B3 := Lib.hid (bthen (bdrew x1) x2)
      clear x1 x2 HS
      have HRow2 := Lib.hid (HRow.out.of_block (B3.out.block _ HRow.out.lt))
      have HM2 := Lib.hid (Blk.keep HM.out B3.out)
      have KB2 := Lib.hid (KB.out.keep B3.out)
      have HRes2 := Lib.hid (HRes.out.keep B3.out)
      have HB2 := Lib.hid (bthen HB.out B3.out)
      clear B3 HRow HM KB HRes HB
      obtain ⟨p, hp⟩ : ∃ p, p = enLo (spM M r) B (spM M r 3) := ⟨_, rfl⟩
      obtain ⟨q, hq⟩ : ∃ q, q = enHi (spM M r) B (spM M r 3) := ⟨_, rfl⟩
      obtain ⟨s, hs⟩ : ∃ s, s = enE (spM M r) B (spM M r 3) := ⟨_, rfl⟩
      have HD : Hid (caLo M B r = p ∧ caHi M B r = q ∧ caE M B r = s) := Lib.hid (by rw [hp, hq, hs]; exact ⟨rfl, rfl, rfl⟩)
      rw [← hp, ← hq, ← hs]
      clear hp hq hs
      by_cases he : s = 0
      · have HEk := Lib.hid he
        have he' : (s != 0) = false := by rw [he]; rfl
        clear he
        have rc := HRow2.out.cell (i := r) (by omega)
        have rf := HRow2.out.frozen r
        have rd := (HRow2.out.set r (.int .i64 p)).cell (i := 3 + r) (by omega)
        have rg := (HRow2.out.set r (.int .i64 p)).frozen (3 + r)
        unfold rowsTo at rc rd
        rw [if_neg (by omega)] at rc
        rw [if_neg (by omega), if_neg (by omega)] at rd
        go_wp2
        go_roundw
        case rel => exact ⟨r + 1, by omega, by go_num, err_step HZ.out (by rw [HD.out.2.2]; exact HEk.out), ((HRow2.out.set r _).set (3 + r) _).congr (fun i hi => by rw [← HD.out.1, ← HD.out.2.1, show caLo M B r = caK M B r by unfold caK; rw [if_pos hr], show caHi M B r = caK M B (3 + r) by unfold caK; rw [if_neg (by omega), show 3 + r - 3 = r by omega]]; exact rows_step _ hr hi), (Blk.far HM2.out (by simp <;> omega) _).far (by simp <;> omega) _, (KB2.out.far (by simp <;> omega) _).far (by simp <;> omega) _, (HRes2.out.far (by simp <;> omega) _).far (by simp <;> omega) _, (HB2.out.setCell (by simp <;> omega) _).setCell (by simp <;> omega) _⟩
        case measure => simp [intOf] <;> omega
      · have HEk := Lib.hid he
        have he' : (s != 0) = true := by simpa using he
        clear he HRow2 HM2 KB2
        obtain ⟨c0, c1, c2, c3, c4, c5, f0, f1, f2, f3, f4, f5⟩ := blk6 HRes2.out
        go_wp2
        have e1 : carE M B = s := by
          rw [carE_yes HO.out.1 HO.out.2, ← HD.out.2.2]
          exact first3_at (e := caE M B) hr HZ.out (by rw [HD.out.2.2]; exact HEk.out)
        have e2 : ∀ v, gate s v = 0 := fun v => by unfold gate; rw [if_neg HEk.out]
        exact bodyPost_ret (v := .tuple #[.agg #[.int .i64 0, .int .i64 0, .int .i64 0, .int .i64 0, .int .i64 0, .int .i64 0], .int .i64 s]) (by simp [results, Try.results18, go_sem, c0, c1, c2, c3, c4, c5]) rfl ⟨by rw [carV_of e1, carV_of e1, carV_of e1, carV_of e1, carV_of e1, carV_of e1, e1, e2, e2, e2, e2, e2, e2], bset6 HB2.out (by omega)⟩
    · obtain rfl : r = 3 := by omega
      have e1 : carE M B = 0 := by rw [carE_yes HO.out.1 HO.out.2]; exact first3_none (e := caE M B) HZ.out
      have HE := Lib.hid e1
      clear e1
      have o0 : wr.cell? ⟨w2.heap.size, 0, none⟩ = some (.int .i64 (caK M B 0)) := HRow.out.cell (i := 0) (by omega)
      have o1 : wr.cell? ⟨w2.heap.size, 1, none⟩ = some (.int .i64 (caK M B 1)) := HRow.out.cell (i := 1) (by omega)
      have o2 : wr.cell? ⟨w2.heap.size, 2, none⟩ = some (.int .i64 (caK M B 2)) := HRow.out.cell (i := 2) (by omega)
      have o3 : wr.cell? ⟨w2.heap.size, 3, none⟩ = some (.int .i64 (caK M B 3)) := HRow.out.cell (i := 3) (by omega)
      have o4 : wr.cell? ⟨w2.heap.size, 4, none⟩ = some (.int .i64 (caK M B 4)) := HRow.out.cell (i := 4) (by omega)
      have o5 : wr.cell? ⟨w2.heap.size, 5, none⟩ = some (.int .i64 (caK M B 5)) := HRow.out.cell (i := 5) (by omega)
      obtain ⟨c0, c1, c2, c3, c4, c5, f0, f1, f2, f3, f4, f5⟩ := blk6 HRes.out
      go_wp2
      exact bodyPost_ret (v := .tuple #[.agg #[.int .i64 (caK M B 0), .int .i64 (caK M B 1), .int .i64 (caK M B 2), .int .i64 (caK M B 3), .int .i64 (caK M B 4), .int .i64 (caK M B 5)], .int .i64 0]) (by simp [results, Try.results18, go_sem, c0, c1, c2, c3, c4, c5]) rfl ⟨by rw [carV_of HE.out, carV_of HE.out, carV_of HE.out, carV_of HE.out, carV_of HE.out, carV_of HE.out, HE.out, gate0, gate0, gate0, gate0, gate0, gate0], bset6 HB.out (by omega)⟩

theorem shcarry_any (M B : Nat → Int) (w : World) :
    Calls Try.prog 18 #[.agg #[.int .i64 (M 0), .int .i64 (M 1), .int .i64 (M 2), .int .i64 (M 3), .int .i64 (M 4), .int .i64 (M 5), .int .i64 (M 6), .int .i64 (M 7), .int .i64 (M 8), .int .i64 (M 9), .int .i64 (M 10), .int .i64 (M 11)], .agg #[.int .i64 (B 0), .int .i64 (B 1), .int .i64 (B 2), .int .i64 (B 3), .int .i64 (B 4), .int .i64 (B 5)]] w fun e w' => e = .returned (.tuple #[.agg #[.int .i64 (carV M B 0), .int .i64 (carV M B 1), .int .i64 (carV M B 2), .int .i64 (carV M B 3), .int .i64 (carV M B 4), .int .i64 (carV M B 5)], .int .i64 (carE M B)]) ∧ Below w.heap.size w w' := by
  by_cases h : okM M = true
  · by_cases h' : okBox B = true
    · exact shcarry_yes M B w h h'
    · have h2 : okBox B = false := by simpa using h'
      have h3 : carOk M B = false := by unfold carOk; rw [h2, Bool.and_false]
      rw [carE_no h3, carV_no h3, carV_no h3, carV_no h3, carV_no h3, carV_no h3, carV_no h3]
      exact shcarry_no2 M B w h h2
  · have h2 : okM M = false := by simpa using h
    have h3 : carOk M B = false := by unfold carOk; rw [h2, Bool.false_and]
    rw [carE_no h3, carV_no h3, carV_no h3, carV_no h3, carV_no h3, carV_no h3, carV_no h3]
    exact shcarry_no1 M B w h2

theorem zT_bound : 0 ≤ zT.1 ∧ zT.1 ≤ 31 := by decide
theorem eqT_run (P Q : PT) (w : World) : (Op.equalIn 10000 32 (.agg (pl P).toArray) (.agg (pl Q).toArray)).run Try.prog w = .ok (eqT P Q) w := eqParts _ _ _ _ _ _ _ _ _ _ _ _ _ _ _ _ w

set_option maxHeartbeats 4000000 in
set_option maxRecDepth 100000 in
theorem only_any (P : PT) (s : Int) (w : World) :
    Calls Try.prog 65 #[.agg (pl P).toArray, .int .i64 s] w fun e w' => e = .returned (.agg (pl (pickT s P)).toArray) ∧ Below w.heap.size w w' := by
  rw [← with_pick s P]
  obtain ⟨R, hR⟩ : ∃ R, R = withT zT P (kindsL s) := ⟨_, rfl⟩
  have HC : Hid (∀ a cap w, Row w a (kindsL s).length (kindsL s) → Calls Try.prog 79 #[.agg (pl zT).toArray, .agg (pl P).toArray, .slice a (kindsL s).length cap] w fun e w' => e = .returned (.agg (pl R).toArray) ∧ Below w.heap.size w w') := Lib.hid (fun a cap w row => by rw [hR]; exact lay_any zT P a _ cap (kindsL s) w zT_bound (kindsL_ok s) row)
  rw [← hR]
  clear hR
  have hu := Try.underlying32
  have HSz := Lib.hid (pl_size P)
  have KP := Lib.hid ((Blk.new w 32 (pl P).toArray).alloc (.cells (pl zT).toArray 32))
  have KR := Lib.hid (blkAt (Blk.new (w.alloc (.cells (pl P).toArray 32)) 32 (pl zT).toArray) (g' := w.heap.size + 1) (by simp))
  go_enter Try.func65, Try.ntmps65
  go_wp2
  refine wp_region_held_drew (S := fun w' => w'.rangeAt w.heap.size 0 (pl P)) (by kernel_rfl) (blk_whole (Blk.drew KP.out)) (fun hHeld => ?_)
  refine tk 0 hHeld ?_
  refine tkl 1 rfl (yieldsIf_load_mid (by rfl) _ _ rfl _ _ rfl _ _ (fun _ h => h) hu rfl HSz.out) hHeld ?_
  refine tk 2 hHeld ?_
  refine rd 3 (fun K hK => ?_)
  go_simp
  go_at_call 80
  refine (pkinds_any s _).mono ?_
  rintro e w1 ⟨ka, kc, rfl, hrow, b1⟩
  go_wp2_with fail
  refine hK.out _ _ (blk_whole (Blk.keep (Blk.drew KP.out) b1)) (fun hHeld => ?_)
  clear hK K hHeld
  replace KP := Lib.hid (Blk.keep (Blk.drew KP.out) b1)
  replace KR := Lib.hid (Blk.keep (Blk.drew KR.out) b1)
  have HB := Lib.hid (bthen (balloc (alloc_below _ _) _) (bdrew b1))
  have HRow := Lib.hid hrow
  have hHeld : Hid (w1.rangeAt w.heap.size 0 (pl P)) := Lib.hid (blk_whole KP.out)
  clear b1 hrow
  replace hHeld := hHeld.out
  refine rd 4 (fun K hK => ?_)
  go_simp
  go_at_call 79
  refine (HC.out _ _ _ HRow.out).mono ?_
  rintro e w2 ⟨rfl, b2⟩
  go_wp2_with fail
  refine hK.out _ _ (blk_whole (Blk.keep KP.out b2)) (fun hHeld => ?_)
  clear hK K hHeld
  replace KP := Lib.hid (Blk.keep KP.out b2)
  replace KR := Lib.hid (Blk.keep KR.out b2)
  replace HB := Lib.hid (bthen HB.out b2)
  have hHeld := blk_whole KP.out
  clear b2 HRow
  have HS5 := Lib.hid (splice_all (X := pl R) (Z := pl zT) rfl ▸ blk_setCells (pl R) KR.out (by simp [pl_len]))
  refine rd 5 (fun K hK => ?_)
  rw [if_pos (by rfl)]
  refine wp_store_mid 32 _ _ rfl (w.heap.size + 1) 0 (pl R).toArray rfl rfl (blk_there KR.out (by simp [pl_len])) (pl_size' _) (pl_one _) ?_
  refine hK.out _ _ (blk_whole (blk_setFar _ KP.out (by omega))) (fun hHeld => ?_)
  clear hK K
  refine wpAnyH_done (by kernel_rfl) ?_ _
  clear hHeld
  go_wp2_with fail
  refine fin (fun W => Blk W (w.heap.size + 1) 32 (pl R).toArray ∧ Below w.heap.size w W) ⟨HS5.out, below_setCells _ HB.out (by omega)⟩ ?_
  rintro W ⟨kr, hb⟩
  have hl := run_loadVar_mid W (w.heap.size + 1) 0 32 (pl R) _ (blk_whole kr) Try.underlying32 rfl (pl_size R)
  exact bodyPost_ret (v := .agg (pl R).toArray) (results_cell Try.results65 rfl hl) rfl ⟨rfl, hb⟩

set_option maxHeartbeats 4000000 in
set_option maxRecDepth 100000 in
theorem bare_any (P : PT) (w : World) :
    Calls Try.prog 48 #[.agg (pl P).toArray] w fun e w' => e = .returned (.bool (bareB P)) ∧ Below w.heap.size w w' := by
  have HC := Lib.hid (only_any P P.1)
  have heq := eqT_run (pickT P.1 P) P
  rw [show eqT (pickT P.1 P) P = bareB P from rfl] at heq
  obtain ⟨R, hR⟩ : ∃ R, R = pickT P.1 P := ⟨_, rfl⟩
  rw [← hR] at HC heq
  clear hR
  obtain ⟨b, hb⟩ : ∃ b, b = bareB P := ⟨_, rfl⟩
  rw [← hb] at heq
  rw [← hb]
  clear hb
  have hu := Try.underlying32
  have HSz := Lib.hid (pl_size P)
  have KP := Lib.hid (Blk.new w 32 (pl P).toArray)
  go_enter Try.func48, Try.ntmps48
  go_wp2
  refine wp_region_held_drew (S := fun w' => w'.rangeAt w.heap.size 0 (pl P) ∧ w'.cell? ⟨w.heap.size, 0, none⟩ = some (.int .i64 P.1)) (by kernel_rfl) ⟨blk_whole (Blk.drew KP.out), KP.out.cell 0⟩ (fun hHeld => ?_)
  refine tkl 0 rfl (yieldsIf_load_mid (by rfl) _ _ rfl _ _ rfl _ _ (fun _ h => h.1) hu rfl HSz.out) hHeld ?_
  refine wpAnyH_take (i := 1) (v := ?_) rfl (by kernel_rfl) (by kernel_rfl) (by kernel_rfl) (fun _ _ _ h => h) (Or.inl ⟨by rfl, ?_⟩) hHeld ?_
  rotate_left
  · rintro w ⟨s1, s2⟩
    go_simp
    with_reducible rfl
  simp only [Act.put, List.getElem_toArray, List.getElem_cons_zero, List.getElem_cons_succ, List.setIfInBounds_toArray, List.set_cons_zero, List.set_cons_succ]
  refine wpAnyH_take (i := 2) (v := ?_) rfl (by kernel_rfl) (by kernel_rfl) (by kernel_rfl) (fun _ _ _ h => h) (Or.inl ⟨by rfl, ?_⟩) hHeld ?_
  rotate_left
  · rintro w ⟨s1, s2⟩
    go_simp
    with_reducible rfl
  simp only [Act.put, List.getElem_toArray, List.getElem_cons_zero, List.getElem_cons_succ, List.setIfInBounds_toArray, List.set_cons_zero, List.set_cons_succ]
  refine tkl 4 rfl (yieldsIf_load_mid (by rfl) _ _ rfl _ _ rfl _ _ (fun _ h => h.1) hu rfl HSz.out) hHeld ?_
  refine rd 3 (fun K hK => ?_)
  go_simp
  go_at_call 65
  refine (HC.out _).mono ?_
  rintro e w1 ⟨rfl, b1⟩
  go_wp2_with fail
  refine hK.out _ _ ⟨blk_whole (Blk.keep (Blk.drew KP.out) b1), (Blk.keep (Blk.drew KP.out) b1).cell 0⟩ (fun hHeld => ?_)
  clear hK K
  have HB := Lib.hid (bthen (alloc_below _ _) (bdrew b1))
  clear b1
  refine wpAnyH_take (i := 5) (v := ?_) rfl (by kernel_rfl) (by kernel_rfl) (by kernel_rfl) (fun _ _ _ h => h) (Or.inl ⟨by rfl, ?_⟩) hHeld ?_
  rotate_left
  · rintro w ⟨s1, s2⟩
    go_simp
    with_reducible rfl
  simp only [Act.put, List.getElem_toArray, List.getElem_cons_zero, List.getElem_cons_succ, List.setIfInBounds_toArray, List.set_cons_zero, List.set_cons_succ]
  refine wpAnyH_take (i := 6) (v := ?_) rfl (by kernel_rfl) (by kernel_rfl) (by kernel_rfl) (fun _ _ _ h => h) (Or.inl ⟨by rfl, ?_⟩) hHeld ?_
  rotate_left
  · rintro w ⟨s1, s2⟩
    go_simp
    with_reducible rfl
  simp only [Act.put, List.getElem_toArray, List.getElem_cons_zero, List.getElem_cons_succ, List.setIfInBounds_toArray, List.set_cons_zero, List.set_cons_succ]
  refine wpAnyH_done (by kernel_rfl) ?_ _
  clear hHeld
  go_wp2_with fail
  go_ret
  exact ⟨rfl, HB.out⟩

theorem wpList_load_g {ops : Array Oper} {rest : List Oper} {op : Oper} {a : Act} {w : World} {Q : Exit → Act → World → Prop} (hw : Region.wanted op (yielded ops a.tmps) = true) (ty : TypeId) (x : Operand) (ho : op.op = .load ty x)
    (b o : Nat) (hx : a.eval x = .pointer (some ⟨b, o, none⟩)) (cs : List Value) (d : TypeDesc) (hc : w.rangeAt b o cs)
    (hu : Try.prog.underlying ty = some d) (hd : d.isRow = true) (hi : (Try.prog.info? ty).map (·.size) = some cs.length)
    (h : wpList Try.prog ops Q rest (a.put op.dst (.agg cs.toArray)) w) : wpList Try.prog ops Q (op :: rest) a w := by
  rw [wpList, if_pos hw]
  exact Or.inl (wp_load_mid ty x ho b o hx cs d hc hu hd hi h)

set_option maxHeartbeats 4000000 in
set_option maxRecDepth 100000 in
theorem val_any (h : Int) (M : Nat → Int) (m : Int) (B : Nat → Int) (p a : Int) (c : Bool) (l : Int) (w : World) :
    Calls Try.prog 47 #[.agg (PL h M m B p a c l).toArray] w fun e w' => e = .returned (.bool (restB M m B p a l)) ∧ Below w.heap.size w w' := by
  unfold restB
  obtain ⟨b1, h1⟩ : ∃ b, okM M = b := ⟨_, rfl⟩
  obtain ⟨b2, h2⟩ : ∃ b, inB m 255 = b := ⟨_, rfl⟩
  obtain ⟨b3, h3⟩ : ∃ b, okBox B = b := ⟨_, rfl⟩
  obtain ⟨b4, h4⟩ : ∃ b, inB p 63 = b := ⟨_, rfl⟩
  obtain ⟨b5, h5⟩ : ∃ b, inB a 255 = b := ⟨_, rfl⟩
  obtain ⟨b6, h6⟩ : ∃ b, inB l 255 = b := ⟨_, rfl⟩
  have H1 := Lib.hid h1
  have H2 := Lib.hid h2
  have H3 := Lib.hid h3
  have H4 := Lib.hid h4
  have H5 := Lib.hid h5
  have H6 := Lib.hid h6
  rw [h1, h2, h3, h4, h5, h6]
  clear h1 h2 h3 h4 h5 h6
  have HR1 : Hid (∀ u g, Blk u g 32 (PL h M m B p a c l).toArray → u.rangeAt g 1 [.int .i64 (M 0), .int .i64 (M 1), .int .i64 (M 2), .int .i64 (M 3), .int .i64 (M 4), .int .i64 (M 5), .int .i64 (M 6), .int .i64 (M 7), .int .i64 (M 8), .int .i64 (M 9), .int .i64 (M 10), .int .i64 (M 11)]) := Lib.hid (fun u g k => blk_range k 1 12)
  have HR2 : Hid (∀ u g, Blk u g 32 (PL h M m B p a c l).toArray → u.rangeAt g 14 [.int .i64 (B 0), .int .i64 (B 1), .int .i64 (B 2), .int .i64 (B 3), .int .i64 (B 4), .int .i64 (B 5)]) := Lib.hid (fun u g k => blk_range k 14 6)
  have HC : Hid (∀ u g, Blk u g 32 (PL h M m B p a c l).toArray → u.cell? ⟨g, 13, none⟩ = some (.int .i64 m) ∧ u.cell? ⟨g, 20, none⟩ = some (.int .i64 p) ∧ u.cell? ⟨g, 21, none⟩ = some (.int .i64 a) ∧ u.cell? ⟨g, 23, none⟩ = some (.int .i64 l)) := Lib.hid (fun u g k => ⟨k.cell 13, k.cell 20, k.cell 21, k.cell 23⟩)
  have HS1 : Hid ((Try.prog.info? 26).map (·.size) = some ([.int .i64 (M 0), .int .i64 (M 1), .int .i64 (M 2), .int .i64 (M 3), .int .i64 (M 4), .int .i64 (M 5), .int .i64 (M 6), .int .i64 (M 7), .int .i64 (M 8), .int .i64 (M 9), .int .i64 (M 10), .int .i64 (M 11)] : List Value).length) := Lib.hid (by kernel_rfl)
  have HS2 : Hid ((Try.prog.info? 30).map (·.size) = some ([.int .i64 (B 0), .int .i64 (B 1), .int .i64 (B 2), .int .i64 (B 3), .int .i64 (B 4), .int .i64 (B 5)] : List Value).length) := Lib.hid (by kernel_rfl)
  obtain ⟨X, hX⟩ : ∃ X, X = PL h M m B p a c l := ⟨_, rfl⟩
  rw [← hX] at HR1 HR2 HC
  rw [← hX]
  clear hX
  have KP := Lib.hid (Blk.new w 32 X.toArray)
  go_enter Try.func47, Try.ntmps47
  go_wp2_with (refine wpList_load_mid rfl 26 (.tmp 3) rfl w.heap.size 1 rfl [.int .i64 (M 0), .int .i64 (M 1), .int .i64 (M 2), .int .i64 (M 3), .int .i64 (M 4), .int .i64 (M 5), .int .i64 (M 6), .int .i64 (M 7), .int .i64 (M 8), .int .i64 (M 9), .int .i64 (M 10), .int .i64 (M 11)] _ (HR1.out _ _ KP.out) Try.underlying26 rfl HS1.out ?_)
  refine (mright1 H1.out (blkAt (Blk.new _ _ _) (by simp))).mono ?_
  rintro e w1 ⟨rfl, k1⟩
  replace KP := Lib.hid ((KP.out.alloc _).keep k1)
  have HB := Lib.hid (bthen (balloc (alloc_below _ _) _) k1)
  clear k1 H1
  cases b1 with
  | false =>
    go_wp2
    go_ret
    exact ⟨rfl, HB.out⟩
  | true =>
    obtain ⟨c13, c20, c21, c23⟩ := HC.out _ _ KP.out
    have z := KP.out.lt
    go_wp2_with fail
    refine (pin_bb H2.out _).mono ?_
    rintro e w2 ⟨rfl, rfl⟩
    clear H2
    cases b2 with
    | false =>
      go_wp2
      go_ret
      exact ⟨rfl, HB.out⟩
    | true =>
      go_wp2_with (refine wpList_load_g (by rfl) 30 (.tmp 13) rfl w.heap.size 14 rfl [.int .i64 (B 0), .int .i64 (B 1), .int .i64 (B 2), .int .i64 (B 3), .int .i64 (B 4), .int .i64 (B 5)] _ (HR2.out _ _ KP.out) Try.underlying30 rfl HS2.out ?_)
      refine (shright1 H3.out (Blk.new _ _ _)).mono ?_
      rintro e w3 ⟨rfl, k3⟩
      replace KP := Lib.hid ((KP.out.alloc _).keep k3)
      replace HB := Lib.hid (bthen (balloc HB.out _) k3)
      clear k3 c13 c20 c21 c23 z H3
      obtain ⟨c13, c20, c21, c23⟩ := HC.out _ _ KP.out
      have z := KP.out.lt
      cases b3 with
      | false =>
        go_wp2
        go_ret
        exact ⟨rfl, HB.out⟩
      | true =>
        go_wp2_with fail
        refine (pin_bb H4.out _).mono ?_
        rintro e w4 ⟨rfl, rfl⟩
        clear H4
        cases b4 with
        | false =>
          go_wp2
          go_ret
          exact ⟨rfl, HB.out⟩
        | true =>
          go_wp2_with fail
          refine (pin_bb H5.out _).mono ?_
          rintro e w5 ⟨rfl, rfl⟩
          clear H5
          cases b5 with
          | false =>
            go_wp2
            go_ret
            exact ⟨rfl, HB.out⟩
          | true =>
            go_wp2_with fail
            refine (pin_bb H6.out _).mono ?_
            rintro e w6 ⟨rfl, rfl⟩
            clear H6
            go_wp2
            go_ret
            exact ⟨by simp, HB.out⟩
theorem valT {P : PT} {b : Bool} (h : valB P = b) (w : World) : Calls Try.prog 47 #[.agg (pl P).toArray] w fun e w' => e = .returned (.bool b) ∧ Below w.heap.size w w' := by
  subst h
  exact val_any _ _ _ _ _ _ _ _ w
theorem bareT {P : PT} {b : Bool} (h : bareB P = b) (w : World) : Calls Try.prog 48 #[.agg (pl P).toArray] w fun e w' => e = .returned (.bool b) ∧ Below w.heap.size w w' := by
  subst h
  exact bare_any P w

set_option maxHeartbeats 2000000 in
set_option maxRecDepth 100000 in
theorem pright_any (P : PT) (w : World) :
    Calls Try.prog 30 #[.agg (pl P).toArray] w fun e w' => e = .returned (.bool (rightT P)) ∧ Below w.heap.size w w' := by
  rw [right_split]
  obtain ⟨b1, h1⟩ : ∃ b, valB P = b := ⟨_, rfl⟩
  obtain ⟨b2, h2⟩ : ∃ b, bareB P = b := ⟨_, rfl⟩
  have H1 := Lib.hid h1
  have H2 := Lib.hid h2
  rw [h1, h2]
  clear h1 h2
  have KP := Lib.hid (Blk.new w 32 (pl P).toArray)
  have HSz := Lib.hid (pl_size P)
  go_enter Try.func30, Try.ntmps30
  go_wp2_with (refine wpList_load_mid rfl 32 (.tmp 1) rfl w.heap.size 0 rfl (pl P) _ (blk_whole KP.out) Try.underlying32 rfl HSz.out ?_)
  refine (valT H1.out _).mono ?_
  rintro e w1 ⟨rfl, k1⟩
  replace KP := Lib.hid (KP.out.keep k1)
  have HB := Lib.hid (bthen (alloc_below _ _) k1)
  clear k1 H1
  cases b1 with
  | false =>
    go_wp2
    go_ret
    exact ⟨rfl, HB.out⟩
  | true =>
    go_wp2_with (refine wpList_load_g (by rfl) 32 (.tmp 1) rfl w.heap.size 0 rfl (pl P) _ (blk_whole KP.out) Try.underlying32 rfl HSz.out ?_)
    refine (bareT H2.out _).mono ?_
    rintro e w2 ⟨rfl, k2⟩
    replace HB := Lib.hid (bthen HB.out k2)
    clear k2 H2
    go_wp2
    go_ret
    exact ⟨by simp, HB.out⟩
theorem prightT {P : PT} {b : Bool} (h : rightT P = b) (w : World) : Calls Try.prog 30 #[.agg (pl P).toArray] w fun e w' => e = .returned (.bool b) ∧ Below w.heap.size w w' := by
  subst h
  exact pright_any P w

theorem has3 (s : Int) : hasAll s [0, 1, 2] = decide (s % 8 = 7) := by
  unfold hasAll
  have h0 : hasB s 0 = decide (s % 2 = 1) := by rw [show hasB s 0 = hasN s 0 from has_yes (k := 0) (by omega)]; unfold hasN; simp
  have h1 : hasB s 1 = decide (s / 2 % 2 = 1) := by rw [show hasB s 1 = hasN s 1 from has_yes (k := 1) (by omega)]; unfold hasN; simp
  have h2 : hasB s 2 = decide (s / 4 % 2 = 1) := by rw [show hasB s 2 = hasN s 2 from has_yes (k := 2) (by omega)]; unfold hasN; simp
  simp only [List.all_cons, List.all_nil, h0, h1, h2, Bool.and_true]
  rw [Bool.eq_iff_iff]
  simp only [Bool.and_eq_true, decide_eq_true_eq]
  omega
def drawnT (P : PT) : Bool := rightT P && decide (P.1 % 8 = 7)
set_option maxHeartbeats 2000000 in
set_option maxRecDepth 100000 in
theorem pdrawn_any (P : PT) (w : World) :
    Calls Try.prog 17 #[.agg (pl P).toArray] w fun e w' => e = .returned (.bool (drawnT P)) ∧ Below w.heap.size w w' := by
  unfold drawnT
  obtain ⟨b1, h1⟩ : ∃ b, rightT P = b := ⟨_, rfl⟩
  obtain ⟨b2, h2⟩ : ∃ b, decide (P.1 % 8 = 7) = b := ⟨_, rfl⟩
  have H1 := Lib.hid h1
  have H2 := Lib.hid ((has3 P.1).trans h2)
  rw [h1, h2]
  clear h1 h2
  have KP := Lib.hid (Blk.new w 32 (pl P).toArray)
  have HSzP := Lib.hid (pl_size P)
  go_enter Try.func17, Try.ntmps17
  go_wp2_with (refine wpList_load_mid rfl 32 (.tmp 1) rfl w.heap.size 0 rfl (pl P) _ (blk_whole KP.out) Try.underlying32 rfl HSzP.out ?_)
  refine (prightT H1.out _).mono ?_
  rintro e w1 ⟨rfl, k1⟩
  replace KP := Lib.hid (KP.out.keep k1)
  have HB := Lib.hid (bthen (alloc_below _ _) k1)
  clear k1 H1
  cases b1 with
  | false =>
    go_wp2
    go_ret
    exact ⟨rfl, HB.out⟩
  | true =>
    have cp : w1.cell? ⟨w.heap.size, 0, none⟩ = some (.int .i64 P.1) := KP.out.cell 0
    have zp := KP.out.lt
    go_wp2_with fail
    refine (phas_b H2.out _ _ _ _ (row3 (Blk.new w1 _ _))).mono ?_
    rintro e w2 ⟨rfl, rfl⟩
    replace HB := Lib.hid (balloc HB.out (.cells #[.int .i64 0, .int .i64 1, .int .i64 2] 64))
    go_wp2
    go_ret
    exact ⟨by simp, HB.out⟩

end Go.Proofs.Ytffbehcbokmpkaa
