/-
  What package vec's Sub, Scale and Dot answer.
-/
import Derived.Test.YthdgldoailjhhaaVecE
namespace Go.Proofs.Ythdgldoailjhhaa
open Go.RowKit

theorem bset3 {w a : World} {g : Nat} {u0 u1 u2 : Value} (h : Below w.heap.size w a) (hg : w.heap.size ≤ g) : Below w.heap.size w (((a.setCell ⟨g, 0, none⟩ u0).setCell ⟨g, 1, none⟩ u1).setCell ⟨g, 2, none⟩ u2) := ((h.setCell hg _).setCell hg _).setCell hg _

theorem vrow1 {w : World} {g : Nat} {t : TypeId} {x0 x1 x2 : Int} (h : Blk w g t #[.int .i64 x0, .int .i64 x1, .int .i64 x2]) : VRow w (some ⟨g, 0, none⟩) 1 [(x0, x1, x2)] := by
  refine ⟨rfl, by omega, Or.inr ⟨_, _, rfl, fun i hi => ?_⟩⟩
  obtain rfl : i = 0 := by omega
  exact ⟨h.cell 0, h.cell 1, h.cell 2⟩
theorem vrow2 {w : World} {g : Nat} {t : TypeId} {x0 x1 x2 y0 y1 y2 : Int} (h : Blk w g t #[.int .i64 x0, .int .i64 x1, .int .i64 x2, .int .i64 y0, .int .i64 y1, .int .i64 y2]) : VRow w (some ⟨g, 0, none⟩) 2 [(x0, x1, x2), (y0, y1, y2)] := by
  refine ⟨rfl, by omega, Or.inr ⟨_, _, rfl, fun i hi => ?_⟩⟩
  obtain rfl | rfl : i = 0 ∨ i = 1 := by omega
  · exact ⟨h.cell 0, h.cell 1, h.cell 2⟩
  · exact ⟨h.cell 3, h.cell 4, h.cell 5⟩

theorem vsubE_no {x0 x1 x2 y0 y1 y2 : Int} (h : ok6 x0 x1 x2 y0 y1 y2 = false) : vsubE x0 x1 x2 y0 y1 y2 = 1 := by unfold vsubE; rw [h]; rfl
theorem vsubE_yes {x0 x1 x2 y0 y1 y2 : Int} (h : ok6 x0 x1 x2 y0 y1 y2 = true) : vsubE x0 x1 x2 y0 y1 y2 = first3 (fitE (x0 - y0)) (fitE (x1 - y1)) (fitE (x2 - y2)) := by unfold vsubE; rw [if_pos h]
theorem vscaleE_no {x0 x1 x2 k : Int} (h : (ok3 x0 x1 x2 && okB k) = false) : vscaleE x0 x1 x2 k = 1 := by unfold vscaleE; rw [h]; rfl
theorem vscaleE_yes {x0 x1 x2 k : Int} (h : (ok3 x0 x1 x2 && okB k) = true) : vscaleE x0 x1 x2 k = first3 (mulE x0 k) (mulE x1 k) (mulE x2 k) := by unfold vscaleE; rw [if_pos h]

theorem fright1_yes {k : Int} (hk : okB k = true) {w : World} {a : Option Addr} {cap : Nat} (row : Row w a 1 [k]) :
    Calls Try.prog 27 #[.slice a 1 cap] w fun e w' => e = .returned (.bool true) ∧ w = w' :=
  (right_any a 1 cap [k] w row).mono fun _ _ ⟨he, hw⟩ => ⟨by rw [he, rightB1, hk], hw⟩
theorem fright1_no {k : Int} (hk : okB k = false) {w : World} {a : Option Addr} {cap : Nat} (row : Row w a 1 [k]) :
    Calls Try.prog 27 #[.slice a 1 cap] w fun e w' => e = .returned (.bool false) ∧ w = w' :=
  (right_any a 1 cap [k] w row).mono fun _ _ ⟨he, hw⟩ => ⟨by rw [he, rightB1, hk], hw⟩

theorem dot_no {x0 x1 x2 y0 y1 y2 : Int} (h : ok6 x0 x1 x2 y0 y1 y2 = false) : dotV x0 x1 x2 y0 y1 y2 = 0 ∧ dotE x0 x1 x2 y0 y1 y2 = 1 := by unfold dotV dotE; rw [h]; exact ⟨rfl, rfl⟩
theorem dot_over {x0 x1 x2 y0 y1 y2 : Int} (h : ok6 x0 x1 x2 y0 y1 y2 = true) (h2 : prodE x0 x1 x2 y0 y1 y2 ≠ 0) : dotV x0 x1 x2 y0 y1 y2 = 0 ∧ dotE x0 x1 x2 y0 y1 y2 = prodE x0 x1 x2 y0 y1 y2 := by
  unfold dotV dotE; rw [if_pos h, if_pos h, if_neg h2, if_neg h2]; exact ⟨rfl, rfl⟩
theorem dot_yes {x0 x1 x2 y0 y1 y2 : Int} (h : ok6 x0 x1 x2 y0 y1 y2 = true) (h2 : prodE x0 x1 x2 y0 y1 y2 = 0) : dotV x0 x1 x2 y0 y1 y2 = addV [mulV x0 y0, mulV x1 y1, mulV x2 y2] ∧ dotE x0 x1 x2 y0 y1 y2 = addE [mulV x0 y0, mulV x1 y1, mulV x2 y2] := by
  unfold dotV dotE; rw [if_pos h, if_pos h, if_pos h2, if_pos h2]; exact ⟨rfl, rfl⟩
theorem gate0 (v : Int) : gate 0 v = v := rfl

set_option maxHeartbeats 400000 in
theorem vdot_no (x0 x1 x2 y0 y1 y2 : Int) (w : World) (hr : ok6 x0 x1 x2 y0 y1 y2 = false) :
    Calls Try.prog 34 #[.agg #[.int .i64 x0, .int .i64 x1, .int .i64 x2], .agg #[.int .i64 y0, .int .i64 y1, .int .i64 y2]] w fun e w' => e = .returned (.tuple #[.int .i64 0, .int .i64 1]) ∧ Below w.heap.size w w' := by
  have HR := Lib.hid ((rightV2 x0 x1 x2 y0 y1 y2).trans hr)
  clear hr
  go_enter Try.func34, Try.ntmps34
  go_wp2_with fail
  refine (vright_no HR.out (vrow2 (blkAt (Blk.new _ _ _) (by simp)))).mono ?_
  rintro e w1 ⟨rfl, b1⟩
  have B1 := Lib.hid (bthen (balloc (balloc (alloc_below _ _) _) _) b1)
  clear b1
  go_wp2
  go_ret2
  exact ⟨rfl, B1.out⟩

/-- what stands behind the products -/
theorem vdot_build (x0 x1 x2 y0 y1 y2 : Int) (w1 : World) (g : Nat)
    (p1 : Blk w1 g 27 #[.int .i64 x0, .int .i64 x1, .int .i64 x2]) (q1 : Blk w1 (g + 1) 27 #[.int .i64 y0, .int .i64 y1, .int .i64 y2]) :
    Calls Try.prog 48 #[.func (.func 49) #[] #[.pointer (some ⟨g, 0, none⟩), .pointer (some ⟨g + 1, 0, none⟩)]] w1 fun e w' => e = .returned (.tuple #[.agg #[.int .i64 (gate (prodE x0 x1 x2 y0 y1 y2) (mulV x0 y0)), .int .i64 (gate (prodE x0 x1 x2 y0 y1 y2) (mulV x1 y1)), .int .i64 (gate (prodE x0 x1 x2 y0 y1 y2) (mulV x2 y2))], .int .i64 (prodE x0 x1 x2 y0 y1 y2)]) ∧ Below w1.heap.size w1 w' :=
  build_any 49 #[.pointer (some ⟨g, 0, none⟩), .pointer (some ⟨g + 1, 0, none⟩)] _ enters_dot (mulV x0 y0) (mulV x1 y1) (mulV x2 y2) (mulE x0 y0) (mulE x1 y1) (mulE x2 y2)
    (fun _ hb => dot1_0 _ _ _ _ _ ((p1.keep hb).cell 0) ((q1.keep hb).cell 0)) (fun _ hb => dot1_1 _ _ _ _ _ ((p1.keep hb).cell 1) ((q1.keep hb).cell 1)) (fun _ hb => dot1_2 _ _ _ _ _ ((p1.keep hb).cell 2) ((q1.keep hb).cell 2))

set_option maxHeartbeats 400000 in
theorem vdot_over (x0 x1 x2 y0 y1 y2 : Int) (w : World) (hr : ok6 x0 x1 x2 y0 y1 y2 = true) (h2 : prodE x0 x1 x2 y0 y1 y2 ≠ 0) :
    Calls Try.prog 34 #[.agg #[.int .i64 x0, .int .i64 x1, .int .i64 x2], .agg #[.int .i64 y0, .int .i64 y1, .int .i64 y2]] w fun e w' => e = .returned (.tuple #[.int .i64 0, .int .i64 (prodE x0 x1 x2 y0 y1 y2)]) ∧ Below w.heap.size w w' := by
  have HR := Lib.hid ((rightV2 x0 x1 x2 y0 y1 y2).trans hr)
  have h3 : (prodE x0 x1 x2 y0 y1 y2 != 0) = true := by simpa using h2
  clear hr h2
  go_enter Try.func34, Try.ntmps34
  go_wp2_with fail
  refine (vright_yes HR.out (vrow2 (blkAt (Blk.new _ _ _) (by simp)))).mono ?_
  rintro e w1 ⟨rfl, b1⟩
  have p1 := Lib.hid ((((Blk.new w 27 _).alloc _).alloc _).keep b1)
  have q1 := Lib.hid (blkAt (((Blk.new (w.alloc _) 27 _).alloc _).keep b1) (g' := w.heap.size + 1) (by simp))
  have B1 := Lib.hid (bthen (balloc (balloc (alloc_below _ _) _) _) b1)
  clear b1
  go_wp2_with fail
  refine (vdot_build x0 x1 x2 y0 y1 y2 _ _ p1.out q1.out).mono ?_
  rintro e w2 ⟨rfl, b2⟩
  have B2 := Lib.hid (bthen B1.out b2)
  clear b2
  go_wp2
  go_ret2
  exact ⟨rfl, balloc B2.out _⟩

set_option maxHeartbeats 400000 in
theorem vdot_yes (x0 x1 x2 y0 y1 y2 : Int) (w : World) (hr : ok6 x0 x1 x2 y0 y1 y2 = true) (h2 : prodE x0 x1 x2 y0 y1 y2 = 0) :
    Calls Try.prog 34 #[.agg #[.int .i64 x0, .int .i64 x1, .int .i64 x2], .agg #[.int .i64 y0, .int .i64 y1, .int .i64 y2]] w fun e w' => e = .returned (.tuple #[.int .i64 (addV [mulV x0 y0, mulV x1 y1, mulV x2 y2]), .int .i64 (addE [mulV x0 y0, mulV x1 y1, mulV x2 y2])]) ∧ Below w.heap.size w w' := by
  have HR := Lib.hid ((rightV2 x0 x1 x2 y0 y1 y2).trans hr)
  have H2 := Lib.hid h2
  clear hr h2
  go_enter Try.func34, Try.ntmps34
  go_wp2_with fail
  refine (vright_yes HR.out (vrow2 (blkAt (Blk.new _ _ _) (by simp)))).mono ?_
  rintro e w1 ⟨rfl, b1⟩
  have p1 := Lib.hid ((((Blk.new w 27 _).alloc _).alloc _).keep b1)
  have q1 := Lib.hid (blkAt (((Blk.new (w.alloc _) 27 _).alloc _).keep b1) (g' := w.heap.size + 1) (by simp))
  have B1 := Lib.hid (bthen (balloc (balloc (alloc_below _ _) _) _) b1)
  clear b1
  go_wp2_with fail
  refine (vdot_build x0 x1 x2 y0 y1 y2 _ _ p1.out q1.out).mono ?_
  rw [H2.out, gate0, gate0, gate0]
  rintro e w2 ⟨rfl, b2⟩
  have B2 := Lib.hid (bthen B1.out b2)
  clear b2
  go_wp2_with fail
  refine (add_any _ _ _ _ _ (row3 (Blk.new _ _ _))).mono ?_
  rintro e w3 ⟨rfl, b3⟩
  have B3 := Lib.hid (bthen (balloc B2.out _) b3)
  clear b3
  go_wp2
  go_ret2
  exact ⟨rfl, B3.out⟩

theorem vdot_any (x0 x1 x2 y0 y1 y2 : Int) (w : World) :
    Calls Try.prog 34 #[.agg #[.int .i64 x0, .int .i64 x1, .int .i64 x2], .agg #[.int .i64 y0, .int .i64 y1, .int .i64 y2]] w fun e w' => e = .returned (.tuple #[.int .i64 (dotV x0 x1 x2 y0 y1 y2), .int .i64 (dotE x0 x1 x2 y0 y1 y2)]) ∧ Below w.heap.size w w' := by
  by_cases hr : ok6 x0 x1 x2 y0 y1 y2 = true
  · by_cases h2 : prodE x0 x1 x2 y0 y1 y2 = 0
    · rw [(dot_yes hr h2).1, (dot_yes hr h2).2]
      exact vdot_yes x0 x1 x2 y0 y1 y2 w hr h2
    · rw [(dot_over hr h2).1, (dot_over hr h2).2]
      exact vdot_over x0 x1 x2 y0 y1 y2 w hr h2
  · have hr' : ok6 x0 x1 x2 y0 y1 y2 = false := by simpa using hr
    rw [(dot_no hr').1, (dot_no hr').2]
    exact vdot_no x0 x1 x2 y0 y1 y2 w hr'

end Go.Proofs.Ythdgldoailjhhaa
