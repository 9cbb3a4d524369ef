/-
  What the reference's Distance and Span of layer 4 answer.
-/
import Derived.Test.YthdgldoailjhhaaShpB
import Derived.Test.YthdgldoailjhhaaAffA
namespace Go.Proofs.Ythdgldoailjhhaa
open Go.RowKit

def dsE0 (P V : Nat → Int) : Int := dotE (P 0) (P 1) (P 2) (V 0) (V 1) (V 2)
def dsV0 (P V : Nat → Int) : Int := dotV (P 0) (P 1) (P 2) (V 0) (V 1) (V 2)
def disOk (P V : Nat → Int) : Bool := okPlane P && ok3 (V 0) (V 1) (V 2)
def disE (P V : Nat → Int) : Int := if disOk P V then (if dsE0 P V = 0 then addE [dsV0 P V, P 3] else dsE0 P V) else 1
def disV (P V : Nat → Int) : Int := if disOk P V then (if dsE0 P V = 0 then addV [dsV0 P V, P 3] else 0) else 0
def spnOk (P B : Nat → Int) : Bool := okPlane P && okBox B
def spnE (P B : Nat → Int) : Int := if spnOk P B then enE P B (P 3) else 1
def spnLo (P B : Nat → Int) : Int := if spnOk P B then enLo P B (P 3) else 0
def spnHi (P B : Nat → Int) : Int := if spnOk P B then enHi P B (P 3) else 0

theorem blk4 {w : World} {g : Nat} {t : TypeId} {x0 x1 x2 x3 : Value} (h : Blk w g t #[x0, x1, x2, x3]) : w.cell? ⟨g, 0, none⟩ = some x0 ∧ w.cell? ⟨g, 1, none⟩ = some x1 ∧ w.cell? ⟨g, 2, none⟩ = some x2 ∧ w.cell? ⟨g, 3, none⟩ = some x3 := ⟨h.cell 0, h.cell 1, h.cell 2, h.cell 3⟩
theorem blk6 {w : World} {g : Nat} {t : TypeId} {x0 x1 x2 x3 x4 x5 : Value} (h : Blk w g t #[x0, x1, x2, x3, x4, x5]) : w.cell? ⟨g, 0, none⟩ = some x0 ∧ w.cell? ⟨g, 1, none⟩ = some x1 ∧ w.cell? ⟨g, 2, none⟩ = some x2 ∧ w.cell? ⟨g, 3, none⟩ = some x3 ∧ w.cell? ⟨g, 4, none⟩ = some x4 ∧ w.cell? ⟨g, 5, none⟩ = some x5 ∧
    w.frozen? ⟨g, 0, none⟩ = false ∧ w.frozen? ⟨g, 1, none⟩ = false ∧ w.frozen? ⟨g, 2, none⟩ = false ∧ w.frozen? ⟨g, 3, none⟩ = false ∧ w.frozen? ⟨g, 4, none⟩ = false ∧ w.frozen? ⟨g, 5, none⟩ = false :=
  ⟨h.cell 0, h.cell 1, h.cell 2, h.cell 3, h.cell 4, h.cell 5, h.frozen 0, h.frozen 1, h.frozen 2, h.frozen 3, h.frozen 4, h.frozen 5⟩
theorem rplane_b {P : Nat → Int} {b : Bool} (h : okPlane P = b) (w : World) :
    Calls Try.prog 11 #[.agg #[.int .i64 (P 0), .int .i64 (P 1), .int .i64 (P 2), .int .i64 (P 3)]] w fun e w' => e = .returned (.bool b) ∧ Below w.heap.size w w' := (rplane_any P w).mono fun _ _ ⟨he, hw⟩ => ⟨by rw [he, h], hw⟩
theorem rbox_b {B : Nat → Int} {b : Bool} (h : okBox B = b) (w : World) :
    Calls Try.prog 6 #[.agg #[.int .i64 (B 0), .int .i64 (B 1), .int .i64 (B 2), .int .i64 (B 3), .int .i64 (B 4), .int .i64 (B 5)]] w fun e w' => e = .returned (.bool b) ∧ Below w.heap.size w w' := (rbox_any B w).mono fun _ _ ⟨he, hw⟩ => ⟨by rw [he, h], hw⟩
theorem rone_b {V : Nat → Int} {b : Bool} (h : ok3 (V 0) (V 1) (V 2) = b) (w : World) :
    Calls Try.prog 36 #[.agg #[.int .i64 (V 0), .int .i64 (V 1), .int .i64 (V 2)]] w fun e w' => e = .returned (.bool b) ∧ Below w.heap.size w w' := (rone_any (V 0) (V 1) (V 2) w).mono fun _ _ ⟨he, hw⟩ => ⟨by rw [he, h], hw⟩

set_option maxHeartbeats 1000000 in
theorem rdist_no (P V : Nat → Int) (a b : Bool) (w : World) (h : okPlane P = a) (h' : ok3 (V 0) (V 1) (V 2) = b) (hab : (a = false ∧ b = false) ∨ (a = false ∧ b = true) ∨ (a = true ∧ b = false)) :
    Calls Try.prog 19 #[.agg #[.int .i64 (P 0), .int .i64 (P 1), .int .i64 (P 2), .int .i64 (P 3)], .agg #[.int .i64 (V 0), .int .i64 (V 1), .int .i64 (V 2)]] w fun e w' => e = .returned (.tuple #[.int .i64 0, .int .i64 1]) ∧ Below w.heap.size w w' := by
  have HO := Lib.hid (And.intro h h')
  clear h h'
  rcases hab with ⟨rfl, rfl⟩ | ⟨rfl, rfl⟩ | ⟨rfl, rfl⟩
  all_goals
    go_enter Try.func19, Try.ntmps19
    go_wp2_with fail
    refine (rplane_b HO.out.1 _).mono ?_
    rintro e w1 ⟨rfl, b1⟩
    have KV := Lib.hid (blkAt ((Blk.new (w.alloc _) 27 _).keep b1) (g' := w.heap.size + 1) (by simp))
    have B1 := Lib.hid (bthen (balloc (alloc_below _ _) _) b1)
    clear b1
    obtain ⟨d0, d1, d2, _, _, _⟩ := blk3 KV.out
    go_wp2_with fail
    refine (rone_b HO.out.2 _).mono ?_
    rintro e w2 ⟨rfl, b2⟩
    replace B1 := Lib.hid (bthen B1.out b2)
    clear b2 d0 d1 d2
    go_wp2
    go_ret2
    exact ⟨rfl, B1.out⟩

set_option maxHeartbeats 1000000 in
theorem rdist_yes (P V : Nat → Int) (w : World) (h : okPlane P = true) (h' : ok3 (V 0) (V 1) (V 2) = true) :
    Calls Try.prog 19 #[.agg #[.int .i64 (P 0), .int .i64 (P 1), .int .i64 (P 2), .int .i64 (P 3)], .agg #[.int .i64 (V 0), .int .i64 (V 1), .int .i64 (V 2)]] w fun e w' => e = .returned (.tuple #[.int .i64 (if dsE0 P V = 0 then addV [dsV0 P V, P 3] else 0), .int .i64 (if dsE0 P V = 0 then addE [dsV0 P V, P 3] else dsE0 P V)]) ∧ Below w.heap.size w w' := by
  have HO := Lib.hid (And.intro h h')
  clear h h'
  obtain ⟨x, hx⟩ : ∃ x, x = dsV0 P V := ⟨_, rfl⟩
  obtain ⟨y, hy⟩ : ∃ y, y = dsE0 P V := ⟨_, rfl⟩
  have HDot : Hid (∀ w', Calls Try.prog 37 #[.agg #[.int .i64 (P 0), .int .i64 (P 1), .int .i64 (P 2)], .agg #[.int .i64 (V 0), .int .i64 (V 1), .int .i64 (V 2)]] w' fun e w'' => e = .returned (.tuple #[.int .i64 x, .int .i64 y]) ∧ Below w'.heap.size w' w'') := Lib.hid (fun w' => by rw [hx, hy]; exact rvdot_any _ _ _ _ _ _ w')
  rw [← hx, ← hy]
  clear hx hy
  by_cases he : y = 0
  · have he' : (y != 0) = false := by rw [he]; rfl
    rw [if_pos he, if_pos he]
    clear he
    go_enter Try.func19, Try.ntmps19
    go_wp2_with fail
    refine (rplane_b HO.out.1 _).mono ?_
    rintro e w1 ⟨rfl, b1⟩
    have KP := Lib.hid (((Blk.new w 29 _).alloc _).keep b1)
    have KV := Lib.hid (blkAt ((Blk.new (w.alloc _) 27 _).keep b1) (g' := w.heap.size + 1) (by simp))
    have B1 := Lib.hid (bthen (balloc (alloc_below _ _) _) b1)
    clear b1
    obtain ⟨d0, d1, d2, _, _, _⟩ := blk3 KV.out
    go_wp2_with fail
    refine (rone_b HO.out.2 _).mono ?_
    rintro e w2 ⟨rfl, b2⟩
    replace KP := Lib.hid (KP.out.keep b2)
    replace KV := Lib.hid (KV.out.keep b2)
    replace B1 := Lib.hid (bthen B1.out b2)
    clear b2 d0 d1 d2
    obtain ⟨d0, d1, d2, _, _, _⟩ := blk3 KV.out
    obtain ⟨p0, p1, p2, p3⟩ := blk4 KP.out
    go_wp2_with fail
    refine (HDot.out _).mono ?_
    rintro e w3 ⟨rfl, b3⟩
    replace KP := Lib.hid (KP.out.keep b3)
    replace B1 := Lib.hid (bthen B1.out b3)
    clear b3 d0 d1 d2 p0 p1 p2 p3
    obtain ⟨p0, p1, p2, p3⟩ := blk4 KP.out
    go_wp2_with fail
    refine (radd_any _ _ _ [x, P 3] _ (row2 w3 x (P 3) _)).mono ?_
    rintro e w4 ⟨rfl, rfl⟩
    go_wp2
    go_ret2
    exact ⟨rfl, balloc B1.out _⟩
  · have he' : (y != 0) = true := by simpa using he
    rw [if_neg he, if_neg he]
    clear he
    go_enter Try.func19, Try.ntmps19
    go_wp2_with fail
    refine (rplane_b HO.out.1 _).mono ?_
    rintro e w1 ⟨rfl, b1⟩
    have KP := Lib.hid (((Blk.new w 29 _).alloc _).keep b1)
    have KV := Lib.hid (blkAt ((Blk.new (w.alloc _) 27 _).keep b1) (g' := w.heap.size + 1) (by simp))
    have B1 := Lib.hid (bthen (balloc (alloc_below _ _) _) b1)
    clear b1
    obtain ⟨d0, d1, d2, _, _, _⟩ := blk3 KV.out
    go_wp2_with fail
    refine (rone_b HO.out.2 _).mono ?_
    rintro e w2 ⟨rfl, b2⟩
    replace KP := Lib.hid (KP.out.keep b2)
    replace KV := Lib.hid (KV.out.keep b2)
    replace B1 := Lib.hid (bthen B1.out b2)
    clear b2 d0 d1 d2
    obtain ⟨d0, d1, d2, _, _, _⟩ := blk3 KV.out
    obtain ⟨p0, p1, p2, p3⟩ := blk4 KP.out
    go_wp2_with fail
    refine (HDot.out _).mono ?_
    rintro e w3 ⟨rfl, b3⟩
    replace KP := Lib.hid (KP.out.keep b3)
    replace B1 := Lib.hid (bthen B1.out b3)
    clear b3 d0 d1 d2 p0 p1 p2 p3
    obtain ⟨p0, p1, p2, p3⟩ := blk4 KP.out
    go_wp2
    go_ret2
    exact ⟨rfl, B1.out⟩

theorem rdist_any (P V : Nat → Int) (w : World) :
    Calls Try.prog 19 #[.agg #[.int .i64 (P 0), .int .i64 (P 1), .int .i64 (P 2), .int .i64 (P 3)], .agg #[.int .i64 (V 0), .int .i64 (V 1), .int .i64 (V 2)]] w fun e w' => e = .returned (.tuple #[.int .i64 (disV P V), .int .i64 (disE P V)]) ∧ Below w.heap.size w w' := by
  unfold disV disE
  by_cases h3 : disOk P V = true
  · rw [if_pos h3, if_pos h3]
    have h4 : okPlane P = true ∧ ok3 (V 0) (V 1) (V 2) = true := by simpa [disOk] using h3
    exact rdist_yes P V w h4.1 h4.2
  · rw [if_neg h3, if_neg h3]
    refine rdist_no P V (okPlane P) (ok3 (V 0) (V 1) (V 2)) w rfl rfl ?_
    unfold disOk at h3
    cases h : okPlane P <;> cases h' : ok3 (V 0) (V 1) (V 2) <;> simp_all

set_option maxHeartbeats 1000000 in
theorem rspan_no (P B : Nat → Int) (a b : Bool) (w : World) (h : okPlane P = a) (h' : okBox B = b) (hab : (a = false ∧ b = false) ∨ (a = false ∧ b = true) ∨ (a = true ∧ b = false)) :
    Calls Try.prog 15 #[.agg #[.int .i64 (P 0), .int .i64 (P 1), .int .i64 (P 2), .int .i64 (P 3)], .agg #[.int .i64 (B 0), .int .i64 (B 1), .int .i64 (B 2), .int .i64 (B 3), .int .i64 (B 4), .int .i64 (B 5)]] w fun e w' => e = .returned (.tuple #[.int .i64 0, .int .i64 0, .int .i64 1]) ∧ Below w.heap.size w w' := by
  have HO := Lib.hid (And.intro h h')
  clear h h'
  rcases hab with ⟨rfl, rfl⟩ | ⟨rfl, rfl⟩ | ⟨rfl, rfl⟩
  all_goals
    go_enter Try.func15, Try.ntmps15
    go_wp2_with fail
    refine (rplane_b HO.out.1 _).mono ?_
    rintro e w1 ⟨rfl, b1⟩
    have KB := Lib.hid (blkAt ((Blk.new (w.alloc _) 33 _).keep b1) (g' := w.heap.size + 1) (by simp))
    have B1 := Lib.hid (bthen (balloc (alloc_below _ _) _) b1)
    clear b1
    obtain ⟨d0, d1, d2, d3, d4, d5, _⟩ := blk6 KB.out
    go_wp2_with fail
    refine (rbox_b HO.out.2 _).mono ?_
    rintro e w2 ⟨rfl, b2⟩
    replace B1 := Lib.hid (bthen B1.out b2)
    clear b2 d0 d1 d2 d3 d4 d5
    go_wp2
    exact bodyPost_ret (v := .tuple #[.int .i64 0, .int .i64 0, .int .i64 1]) (by simp [results, Try.results15, go_sem]) rfl ⟨rfl, B1.out⟩

set_option maxHeartbeats 1000000 in
theorem rspan_yes (P B : Nat → Int) (w : World) (h : okPlane P = true) (h' : okBox B = true) :
    Calls Try.prog 15 #[.agg #[.int .i64 (P 0), .int .i64 (P 1), .int .i64 (P 2), .int .i64 (P 3)], .agg #[.int .i64 (B 0), .int .i64 (B 1), .int .i64 (B 2), .int .i64 (B 3), .int .i64 (B 4), .int .i64 (B 5)]] w fun e w' => e = .returned (.tuple #[.int .i64 (enLo P B (P 3)), .int .i64 (enHi P B (P 3)), .int .i64 (enE P B (P 3))]) ∧ Below w.heap.size w w' := by
  have HO := Lib.hid (And.intro h h')
  clear h h'
  go_enter Try.func15, Try.ntmps15
  go_wp2_with fail
  refine (rplane_b HO.out.1 _).mono ?_
  rintro e w1 ⟨rfl, b1⟩
  have KP := Lib.hid (((Blk.new w 29 _).alloc _).keep b1)
  have KB := Lib.hid (blkAt ((Blk.new (w.alloc _) 33 _).keep b1) (g' := w.heap.size + 1) (by simp))
  have B1 := Lib.hid (bthen (balloc (alloc_below _ _) _) b1)
  clear b1
  obtain ⟨d0, d1, d2, d3, d4, d5, _⟩ := blk6 KB.out
  go_wp2_with fail
  refine (rbox_b HO.out.2 _).mono ?_
  rintro e w2 ⟨rfl, b2⟩
  replace KP := Lib.hid (KP.out.keep b2)
  replace KB := Lib.hid (KB.out.keep b2)
  replace B1 := Lib.hid (bthen B1.out b2)
  clear b2 d0 d1 d2 d3 d4 d5
  obtain ⟨d0, d1, d2, d3, d4, d5, _⟩ := blk6 KB.out
  obtain ⟨p0, p1, p2, p3⟩ := blk4 KP.out
  go_wp2_with fail
  refine (rends_any P B (P 3) _).mono ?_
  rintro e w3 ⟨rfl, b3⟩
  replace B1 := Lib.hid (bthen B1.out b3)
  clear b3 d0 d1 d2 d3 d4 d5 p0 p1 p2 p3
  go_wp2
  exact bodyPost_ret (v := .tuple #[.int .i64 (enLo P B (P 3)), .int .i64 (enHi P B (P 3)), .int .i64 (enE P B (P 3))]) (by simp [results, Try.results15, go_sem]) rfl ⟨rfl, B1.out⟩

theorem rspan_any (P B : Nat → Int) (w : World) :
    Calls Try.prog 15 #[.agg #[.int .i64 (P 0), .int .i64 (P 1), .int .i64 (P 2), .int .i64 (P 3)], .agg #[.int .i64 (B 0), .int .i64 (B 1), .int .i64 (B 2), .int .i64 (B 3), .int .i64 (B 4), .int .i64 (B 5)]] w fun e w' => e = .returned (.tuple #[.int .i64 (spnLo P B), .int .i64 (spnHi P B), .int .i64 (spnE P B)]) ∧ Below w.heap.size w w' := by
  unfold spnLo spnHi spnE
  by_cases h3 : spnOk P B = true
  · rw [if_pos h3, if_pos h3, if_pos h3]
    have h4 : okPlane P = true ∧ okBox B = true := by simpa [spnOk] using h3
    exact rspan_yes P B w h4.1 h4.2
  · rw [if_neg h3, if_neg h3, if_neg h3]
    refine rspan_no P B (okPlane P) (okBox B) w rfl rfl ?_
    unfold spnOk at h3
    cases h : okPlane P <;> cases h' : okBox B <;> simp_all

end Go.Proofs.Ythdgldoailjhhaa
