/-
  What package shape's Distance and Span answer.
-/
import Derived.Test.YthdgldoailjhhaaShpK
namespace Go.Proofs.Ythdgldoailjhhaa
open Go.RowKit

theorem shright1 {B : Nat → Int} {b : Bool} (ho : okBox B = b) {w : World} {g cap : Nat} {t : TypeId} (h : Blk w g t #[.int .i64 (B 0), .int .i64 (B 1), .int .i64 (B 2), .int .i64 (B 3), .int .i64 (B 4), .int .i64 (B 5)]) :
    Calls Try.prog 9 #[.slice (some ⟨g, 0, none⟩) 1 cap] w fun e w' => e = .returned (.bool b) ∧ Below w.heap.size w w' :=
  (shright_any _ 1 cap [B] w (brow1 h)).mono fun _ _ ⟨he, hw⟩ => ⟨by rw [he]; unfold rightBx; simp [ho], hw⟩
theorem sh_mulV_comm (x y : Int) : mulV x y = mulV y x := by unfold mulV; rw [Bool.and_comm, Int.mul_comm]
theorem sh_mulE_comm (x y : Int) : mulE x y = mulE y x := by unfold mulE; rw [Bool.and_comm, Int.mul_comm]
theorem sh_ok6_comm (x0 x1 x2 y0 y1 y2 : Int) : ok6 x0 x1 x2 y0 y1 y2 = ok6 y0 y1 y2 x0 x1 x2 := by unfold ok6; rw [Bool.and_comm]
theorem sh_prodE_comm (x0 x1 x2 y0 y1 y2 : Int) : prodE x0 x1 x2 y0 y1 y2 = prodE y0 y1 y2 x0 x1 x2 := by unfold prodE; rw [sh_mulE_comm x0, sh_mulE_comm x1, sh_mulE_comm x2]
theorem sh_dotV_comm (x0 x1 x2 y0 y1 y2 : Int) : dotV x0 x1 x2 y0 y1 y2 = dotV y0 y1 y2 x0 x1 x2 := by unfold dotV; rw [sh_ok6_comm, sh_prodE_comm, sh_mulV_comm x0, sh_mulV_comm x1, sh_mulV_comm x2]
theorem sh_dotE_comm (x0 x1 x2 y0 y1 y2 : Int) : dotE x0 x1 x2 y0 y1 y2 = dotE y0 y1 y2 x0 x1 x2 := by unfold dotE; rw [sh_ok6_comm, sh_prodE_comm, sh_mulV_comm x0, sh_mulV_comm x1, sh_mulV_comm x2]

set_option maxHeartbeats 1000000 in
theorem shdist_no1 (P V : Nat → Int) (w : World) (h : okPlane P = false) :
    Calls Try.prog 18 #[.agg #[.int .i64 (P 0), .int .i64 (P 1), .int .i64 (P 2), .int .i64 (P 3)], .agg #[.int .i64 (V 0), .int .i64 (V 1), .int .i64 (V 2)]] w fun e w' => e = .returned (.tuple #[.int .i64 0, .int .i64 1]) ∧ Below w.heap.size w w' := by
  have HO := Lib.hid (And.intro h True.intro)
  clear h
  go_enter Try.func18, Try.ntmps18
  go_wp2_with fail
  refine (shplane_b _ (blkAt (Blk.new _ _ _) (by simp)) HO.out.1).mono ?_
  rintro e w1 ⟨rfl, b1⟩
  have B1 := Lib.hid (bthen (balloc (balloc (alloc_below _ _) _) _) b1)
  clear b1
  go_wp2
  go_ret2
  exact ⟨rfl, B1.out⟩

set_option maxHeartbeats 1000000 in
theorem shdist_no2 (P V : Nat → Int) (w : World) (h : okPlane P = true) (h' : okV3 V = false) :
    Calls Try.prog 18 #[.agg #[.int .i64 (P 0), .int .i64 (P 1), .int .i64 (P 2), .int .i64 (P 3)], .agg #[.int .i64 (V 0), .int .i64 (V 1), .int .i64 (V 2)]] w fun e w' => e = .returned (.tuple #[.int .i64 0, .int .i64 1]) ∧ Below w.heap.size w w' := by
  have HO := Lib.hid (And.intro h h')
  clear h h'
  go_enter Try.func18, Try.ntmps18
  go_wp2_with fail
  refine (shplane_b _ (blkAt (Blk.new _ _ _) (by simp)) HO.out.1).mono ?_
  rintro e w1 ⟨rfl, b1⟩
  have KP := Lib.hid ((((Blk.new w 29 _).alloc _).alloc _).keep b1)
  have KV := Lib.hid (blkAt (((Blk.new (w.alloc _) 27 _).alloc _).keep b1) (g' := w.heap.size + 1) (by simp))
  have B1 := Lib.hid (bthen (balloc (balloc (alloc_below _ _) _) _) b1)
  clear b1
  obtain ⟨d0, d1, d2, _, _, _⟩ := blk3 KV.out
  have z := KV.out.lt
  have z' := KP.out.lt
  go_wp2_with fail
  refine (vright1 HO.out.2 (blkAt (Blk.new _ _ _) (by simp))).mono ?_
  rintro e w2 ⟨rfl, b2⟩
  replace KP := Lib.hid ((KP.out.alloc _).keep b2)
  replace KV := Lib.hid ((KV.out.alloc _).keep b2)
  replace B1 := Lib.hid (bthen (balloc B1.out _) b2)
  clear b2 d0 d1 d2 z z'
  go_wp2
  go_ret2
  exact ⟨rfl, B1.out⟩

set_option maxHeartbeats 1000000 in
theorem shdist_yes (P V : Nat → Int) (w : World) (h : okPlane P = true) (h' : okV3 V = true) :
    Calls Try.prog 18 #[.agg #[.int .i64 (P 0), .int .i64 (P 1), .int .i64 (P 2), .int .i64 (P 3)], .agg #[.int .i64 (V 0), .int .i64 (V 1), .int .i64 (V 2)]] w fun e w' => e = .returned (.tuple #[.int .i64 (if dsE0 P V = 0 then addV [dsV0 P V, P 3] else 0), .int .i64 (if dsE0 P V = 0 then addE [dsV0 P V, P 3] else dsE0 P V)]) ∧ Below w.heap.size w w' := by
  have HO := Lib.hid (And.intro h h')
  clear h h'
  obtain ⟨x, hx⟩ : ∃ x, x = dsV0 P V := ⟨_, rfl⟩
  obtain ⟨y, hy⟩ : ∃ y, y = dsE0 P V := ⟨_, rfl⟩
  have HDot : Hid (∀ w', Calls Try.prog 34 #[.agg #[.int .i64 (V 0), .int .i64 (V 1), .int .i64 (V 2)], .agg #[.int .i64 (P 0), .int .i64 (P 1), .int .i64 (P 2)]] w' fun e w'' => e = .returned (.tuple #[.int .i64 x, .int .i64 y]) ∧ Below w'.heap.size w' w'') := Lib.hid (fun w' => by rw [hx, hy]; unfold dsV0 dsE0; rw [sh_dotV_comm, sh_dotE_comm]; exact vdot_any _ _ _ _ _ _ w')
  rw [← hx, ← hy]
  clear hx hy
  by_cases he : y = 0
  · have he' : (y != 0) = false := by rw [he]; rfl
    rw [if_pos he, if_pos he]
    clear he
    go_enter Try.func18, Try.ntmps18
    go_wp2_with fail
    refine (shplane_b _ (blkAt (Blk.new _ _ _) (by simp)) HO.out.1).mono ?_
    rintro e w1 ⟨rfl, b1⟩
    have KP := Lib.hid ((((Blk.new w 29 _).alloc _).alloc _).keep b1)
    have KV := Lib.hid (blkAt (((Blk.new (w.alloc _) 27 _).alloc _).keep b1) (g' := w.heap.size + 1) (by simp))
    have B1 := Lib.hid (bthen (balloc (balloc (alloc_below _ _) _) _) b1)
    clear b1
    obtain ⟨d0, d1, d2, _, _, _⟩ := blk3 KV.out
    have z := KV.out.lt
    have z' := KP.out.lt
    go_wp2_with fail
    refine (vright1 HO.out.2 (blkAt (Blk.new _ _ _) (by simp))).mono ?_
    rintro e w2 ⟨rfl, b2⟩
    replace KP := Lib.hid ((KP.out.alloc _).keep b2)
    replace KV := Lib.hid ((KV.out.alloc _).keep b2)
    replace B1 := Lib.hid (bthen (balloc B1.out _) b2)
    clear b2 d0 d1 d2 z z'
    obtain ⟨d0, d1, d2, _, _, _⟩ := blk3 KV.out
    obtain ⟨p0, p1, p2, p3⟩ := blk4 KP.out
    go_wp2_with fail
    refine (HDot.out _).mono ?_
    rintro e w3 ⟨rfl, b3⟩
    replace KP := Lib.hid (KP.out.keep b3)
    replace B1 := Lib.hid (bthen B1.out b3)
    clear b3 d0 d1 d2 p0 p1 p2 p3
    obtain ⟨p0, p1, p2, p3⟩ := blk4 KP.out
    go_wp2_with fail
    refine (add_any _ _ _ [x, P 3] _ (row2 w3 x (P 3) _)).mono ?_
    rintro e w4 ⟨rfl, b4⟩
    replace B1 := Lib.hid (bthen (balloc B1.out _) b4)
    clear b4 p0 p1 p2 p3
    go_wp2
    go_ret2
    exact ⟨rfl, B1.out⟩
  · have he' : (y != 0) = true := by simpa using he
    rw [if_neg he, if_neg he]
    clear he
    go_enter Try.func18, Try.ntmps18
    go_wp2_with fail
    refine (shplane_b _ (blkAt (Blk.new _ _ _) (by simp)) HO.out.1).mono ?_
    rintro e w1 ⟨rfl, b1⟩
    have KP := Lib.hid ((((Blk.new w 29 _).alloc _).alloc _).keep b1)
    have KV := Lib.hid (blkAt (((Blk.new (w.alloc _) 27 _).alloc _).keep b1) (g' := w.heap.size + 1) (by simp))
    have B1 := Lib.hid (bthen (balloc (balloc (alloc_below _ _) _) _) b1)
    clear b1
    obtain ⟨d0, d1, d2, _, _, _⟩ := blk3 KV.out
    have z := KV.out.lt
    have z' := KP.out.lt
    go_wp2_with fail
    refine (vright1 HO.out.2 (blkAt (Blk.new _ _ _) (by simp))).mono ?_
    rintro e w2 ⟨rfl, b2⟩
    replace KP := Lib.hid ((KP.out.alloc _).keep b2)
    replace KV := Lib.hid ((KV.out.alloc _).keep b2)
    replace B1 := Lib.hid (bthen (balloc B1.out _) b2)
    clear b2 d0 d1 d2 z z'
    obtain ⟨d0, d1, d2, _, _, _⟩ := blk3 KV.out
    obtain ⟨p0, p1, p2, p3⟩ := blk4 KP.out
    go_wp2_with fail
    refine (HDot.out _).mono ?_
    rintro e w3 ⟨rfl, b3⟩
    replace KP := Lib.hid (KP.out.keep b3)
    replace B1 := Lib.hid (bthen B1.out b3)
    clear b3 d0 d1 d2 p0 p1 p2 p3
    go_wp2
    go_ret2
    exact ⟨rfl, B1.out⟩

theorem shdist_any (P V : Nat → Int) (w : World) :
    Calls Try.prog 18 #[.agg #[.int .i64 (P 0), .int .i64 (P 1), .int .i64 (P 2), .int .i64 (P 3)], .agg #[.int .i64 (V 0), .int .i64 (V 1), .int .i64 (V 2)]] w fun e w' => e = .returned (.tuple #[.int .i64 (disV P V), .int .i64 (disE P V)]) ∧ Below w.heap.size w w' := by
  unfold disV disE disOk
  by_cases h : okPlane P = true
  · by_cases h' : okV3 V = true
    · rw [h, show ok3 (V 0) (V 1) (V 2) = true from h']
      exact shdist_yes P V w h h'
    · have h2 : okV3 V = false := by simpa using h'
      rw [show ok3 (V 0) (V 1) (V 2) = false from h2, Bool.and_false]
      exact shdist_no2 P V w h h2
  · have h2 : okPlane P = false := by simpa using h
    rw [h2, Bool.false_and]
    exact shdist_no1 P V w h2

set_option maxHeartbeats 1000000 in
theorem shspan_no1 (P B : Nat → Int) (w : World) (h : okPlane P = false) :
    Calls Try.prog 14 #[.agg #[.int .i64 (P 0), .int .i64 (P 1), .int .i64 (P 2), .int .i64 (P 3)], .agg #[.int .i64 (B 0), .int .i64 (B 1), .int .i64 (B 2), .int .i64 (B 3), .int .i64 (B 4), .int .i64 (B 5)]] w fun e w' => e = .returned (.tuple #[.int .i64 0, .int .i64 0, .int .i64 1]) ∧ Below w.heap.size w w' := by
  have HO := Lib.hid (And.intro h True.intro)
  clear h
  go_enter Try.func14, Try.ntmps14
  go_wp2_with fail
  refine (shplane_b _ (blkAt (Blk.new _ _ _) (by simp)) HO.out.1).mono ?_
  rintro e w1 ⟨rfl, b1⟩
  have B1 := Lib.hid (bthen (balloc (balloc (alloc_below _ _) _) _) b1)
  clear b1
  go_wp2
  exact bodyPost_ret (v := .tuple #[.int .i64 0, .int .i64 0, .int .i64 1]) (by simp [results, Try.results14, go_sem]) rfl ⟨rfl, B1.out⟩

set_option maxHeartbeats 1000000 in
theorem shspan_no2 (P B : Nat → Int) (w : World) (h : okPlane P = true) (h' : okBox B = false) :
    Calls Try.prog 14 #[.agg #[.int .i64 (P 0), .int .i64 (P 1), .int .i64 (P 2), .int .i64 (P 3)], .agg #[.int .i64 (B 0), .int .i64 (B 1), .int .i64 (B 2), .int .i64 (B 3), .int .i64 (B 4), .int .i64 (B 5)]] w fun e w' => e = .returned (.tuple #[.int .i64 0, .int .i64 0, .int .i64 1]) ∧ Below w.heap.size w w' := by
  have HO := Lib.hid (And.intro h h')
  clear h h'
  go_enter Try.func14, Try.ntmps14
  go_wp2_with fail
  refine (shplane_b _ (blkAt (Blk.new _ _ _) (by simp)) HO.out.1).mono ?_
  rintro e w1 ⟨rfl, b1⟩
  have KP := Lib.hid ((((Blk.new w 29 _).alloc _).alloc _).keep b1)
  have KV := Lib.hid (blkAt (((Blk.new (w.alloc _) 33 _).alloc _).keep b1) (g' := w.heap.size + 1) (by simp))
  have B1 := Lib.hid (bthen (balloc (balloc (alloc_below _ _) _) _) b1)
  clear b1
  obtain ⟨d0, d1, d2, d3, d4, d5, _⟩ := blk6 KV.out
  have z := KV.out.lt
  have z' := KP.out.lt
  go_wp2_with fail
  refine (shright1 HO.out.2 (blkAt (Blk.new _ _ _) (by simp))).mono ?_
  rintro e w2 ⟨rfl, b2⟩
  replace KP := Lib.hid ((KP.out.alloc _).keep b2)
  replace KV := Lib.hid ((KV.out.alloc _).keep b2)
  replace B1 := Lib.hid (bthen (balloc B1.out _) b2)
  clear b2 d0 d1 d2 d3 d4 d5 z z'
  go_wp2
  exact bodyPost_ret (v := .tuple #[.int .i64 0, .int .i64 0, .int .i64 1]) (by simp [results, Try.results14, go_sem]) rfl ⟨rfl, B1.out⟩

set_option maxHeartbeats 1000000 in
theorem shspan_yes (P B : Nat → Int) (w : World) (h : okPlane P = true) (h' : okBox B = true) :
    Calls Try.prog 14 #[.agg #[.int .i64 (P 0), .int .i64 (P 1), .int .i64 (P 2), .int .i64 (P 3)], .agg #[.int .i64 (B 0), .int .i64 (B 1), .int .i64 (B 2), .int .i64 (B 3), .int .i64 (B 4), .int .i64 (B 5)]] w fun e w' => e = .returned (.tuple #[.int .i64 (enLo P B (P 3)), .int .i64 (enHi P B (P 3)), .int .i64 (enE P B (P 3))]) ∧ Below w.heap.size w w' := by
  have HO := Lib.hid (And.intro h h')
  clear h h'
  go_enter Try.func14, Try.ntmps14
  go_wp2_with fail
  refine (shplane_b _ (blkAt (Blk.new _ _ _) (by simp)) HO.out.1).mono ?_
  rintro e w1 ⟨rfl, b1⟩
  have KP := Lib.hid ((((Blk.new w 29 _).alloc _).alloc _).keep b1)
  have KV := Lib.hid (blkAt (((Blk.new (w.alloc _) 33 _).alloc _).keep b1) (g' := w.heap.size + 1) (by simp))
  have B1 := Lib.hid (bthen (balloc (balloc (alloc_below _ _) _) _) b1)
  clear b1
  obtain ⟨d0, d1, d2, d3, d4, d5, _⟩ := blk6 KV.out
  have z := KV.out.lt
  have z' := KP.out.lt
  go_wp2_with fail
  refine (shright1 HO.out.2 (blkAt (Blk.new _ _ _) (by simp))).mono ?_
  rintro e w2 ⟨rfl, b2⟩
  replace KP := Lib.hid ((KP.out.alloc _).keep b2)
  replace KV := Lib.hid ((KV.out.alloc _).keep b2)
  replace B1 := Lib.hid (bthen (balloc B1.out _) b2)
  clear b2 d0 d1 d2 d3 d4 d5 z z'
  obtain ⟨d0, d1, d2, d3, d4, d5, _⟩ := blk6 KV.out
  obtain ⟨p0, p1, p2, p3⟩ := blk4 KP.out
  go_wp2_with fail
  refine (ends_any P B _ HO.out.1 HO.out.2).mono ?_
  rintro e w3 ⟨rfl, b3⟩
  replace B1 := Lib.hid (bthen B1.out b3)
  clear b3 d0 d1 d2 d3 d4 d5 p0 p1 p2 p3
  go_wp2
  exact bodyPost_ret (v := .tuple #[.int .i64 (enLo P B (P 3)), .int .i64 (enHi P B (P 3)), .int .i64 (enE P B (P 3))]) (by simp [results, Try.results14, go_sem]) rfl ⟨rfl, B1.out⟩

theorem shspan_any (P B : Nat → Int) (w : World) :
    Calls Try.prog 14 #[.agg #[.int .i64 (P 0), .int .i64 (P 1), .int .i64 (P 2), .int .i64 (P 3)], .agg #[.int .i64 (B 0), .int .i64 (B 1), .int .i64 (B 2), .int .i64 (B 3), .int .i64 (B 4), .int .i64 (B 5)]] w fun e w' => e = .returned (.tuple #[.int .i64 (spnLo P B), .int .i64 (spnHi P B), .int .i64 (spnE P B)]) ∧ Below w.heap.size w w' := by
  unfold spnLo spnHi spnE spnOk
  by_cases h : okPlane P = true
  · by_cases h' : okBox B = true
    · rw [h, h']
      exact shspan_yes P B w h h'
    · have h2 : okBox B = false := by simpa using h'
      rw [h2, Bool.and_false]
      exact shspan_no2 P B w h h2
  · have h2 : okPlane P = false := by simpa using h
    rw [h2, Bool.false_and]
    exact shspan_no1 P B w h2

end Go.Proofs.Ythdgldoailjhhaa
