/-
  What package vec's Of, Add, Sub, Scale and Dot answer.
-/
import Derived.Test.YtcmliidkkgkgcaaVecD
namespace Go.Proofs.Ytcmliidkkgkgcaa
open Go.RowKit

def vofE (x y z : Int) : Int := first3 (ofE x) (ofE y) (ofE z)
def vaddOk (vs : List V3) : Bool := decide (vs.length ≤ 1024) && rightV vs
def vaddE (vs : List V3) : Int := if vaddOk vs then first3 (addE (col0 vs)) (addE (col1 vs)) (addE (col2 vs)) else 1
def ok6 (x0 x1 x2 y0 y1 y2 : Int) : Bool := ok3 x0 x1 x2 && ok3 y0 y1 y2
def vsubE (x0 x1 x2 y0 y1 y2 : Int) : Int := if ok6 x0 x1 x2 y0 y1 y2 then first3 (fitE (x0 - y0)) (fitE (x1 - y1)) (fitE (x2 - y2)) else 1
def vscaleE (x0 x1 x2 k : Int) : Int := if ok3 x0 x1 x2 && okB k then first3 (mulE x0 k) (mulE x1 k) (mulE x2 k) else 1
def prodE (x0 x1 x2 y0 y1 y2 : Int) : Int := first3 (mulE x0 y0) (mulE x1 y1) (mulE x2 y2)
def dotE (x0 x1 x2 y0 y1 y2 : Int) : Int := if ok6 x0 x1 x2 y0 y1 y2 then (if prodE x0 x1 x2 y0 y1 y2 = 0 then addE [mulV x0 y0, mulV x1 y1, mulV x2 y2] else prodE x0 x1 x2 y0 y1 y2) else 1
def dotV (x0 x1 x2 y0 y1 y2 : Int) : Int := if ok6 x0 x1 x2 y0 y1 y2 then (if prodE x0 x1 x2 y0 y1 y2 = 0 then addV [mulV x0 y0, mulV x1 y1, mulV x2 y2] else 0) else 0

theorem gate1 (v : Int) : gate 1 v = 0 := rfl
theorem rightV2 (x0 x1 x2 y0 y1 y2 : Int) : rightV [(x0, x1, x2), (y0, y1, y2)] = ok6 x0 x1 x2 y0 y1 y2 := by simp [rightV, okV, ok6]
theorem rightV1 (x0 x1 x2 : Int) : rightV [(x0, x1, x2)] = ok3 x0 x1 x2 := by simp [rightV, okV]
theorem ok3_parts {x y z : Int} (h : ok3 x y z = true) : okB x = true ∧ okB y = true ∧ okB z = true := by simpa [ok3, rightB, and_assoc] using h
theorem ok6_parts {x0 x1 x2 y0 y1 y2 : Int} (h : ok6 x0 x1 x2 y0 y1 y2 = true) : ok3 x0 x1 x2 = true ∧ ok3 y0 y1 y2 = true := by simpa [ok6] using h

set_option maxHeartbeats 400000 in
theorem vof_any (x y z : Int) (w : World) :
    Calls Try.prog 20 #[.int .i64 x, .int .i64 y, .int .i64 z] w fun e w' => e = .returned (.tuple #[.agg #[.int .i64 (gate (vofE x y z) (ofV x)), .int .i64 (gate (vofE x y z) (ofV y)), .int .i64 (gate (vofE x y z) (ofV z))], .int .i64 (vofE x y z)]) ∧ Below w.heap.size w w' := by
  go_enter Try.func20, Try.ntmps20
  go_wp2_with fail
  have kb := blkAt (Blk.new (w.alloc (.cells #[.int .i64 0, .int .i64 0, .int .i64 0] 25)) 58 #[.int .i64 x, .int .i64 y, .int .i64 z]) (g' := w.heap.size + 1) (by simp)
  refine (build_any 38 #[.pointer (some ⟨w.heap.size + 1, 0, none⟩)] _ enters_of (ofV x) (ofV y) (ofV z) (ofE x) (ofE y) (ofE z) (fun w' hb => of1_0 _ _ _ ((kb.keep hb).cell 0)) (fun w' hb => of1_1 _ _ _ ((kb.keep hb).cell 1)) (fun w' hb => of1_2 _ _ _ ((kb.keep hb).cell 2))).mono ?_
  clear kb
  rw [show first3 (ofE x) (ofE y) (ofE z) = vofE x y z from rfl]
  rintro e w1 ⟨rfl, b1⟩
  have k1 := Lib.hid (((Blk.new w 25 _).alloc _).keep b1)
  have B1 := Lib.hid (bthen (balloc (alloc_below _ _) _) b1)
  clear b1
  obtain ⟨c10, c11, c12, f10, f11, f12⟩ := blk3 k1.out
  go_wp2
  exact bodyPost_ret (v := .tuple #[.agg #[.int .i64 (gate (vofE x y z) (ofV x)), .int .i64 (gate (vofE x y z) (ofV y)), .int .i64 (gate (vofE x y z) (ofV z))], .int .i64 (vofE x y z)]) (by simp [results, Try.results20, go_sem, c10, c11, c12]) rfl ⟨rfl, ((B1.out.setCell (by simp) _).setCell (by simp) _).setCell (by simp) _⟩


theorem vaddE_no {vs : List V3} (h : vaddOk vs = false) : vaddE vs = 1 := by unfold vaddE; rw [h]; rfl
theorem vaddE_yes {vs : List V3} (h : vaddOk vs = true) : vaddE vs = first3 (addE (col0 vs)) (addE (col1 vs)) (addE (col2 vs)) := by unfold vaddE; rw [if_pos h]
theorem vaddOk_many {vs : List V3} {len : Nat} (hl : vs.length = len) (h : 1024 < len) : vaddOk vs = false := by unfold vaddOk; rw [decide_eq_false (by omega)]; rfl
theorem vaddOk_wrong {vs : List V3} (h : rightV vs = false) : vaddOk vs = false := by unfold vaddOk; rw [h, Bool.and_false]
theorem vaddOk_yes {vs : List V3} {len : Nat} (hl : vs.length = len) (h : len ≤ 1024) (hr : rightV vs = true) : vaddOk vs = true := by unfold vaddOk; rw [decide_eq_true (by omega), hr]; rfl

theorem vright_yes {a : Option Addr} {len cap : Nat} {vs : List V3} {w : World} (hr : rightV vs = true) (row : VRow w a len vs) :
    Calls Try.prog 11 #[.slice a len cap] w fun e w' => e = .returned (.bool true) ∧ Below w.heap.size w w' :=
  (vright_any a len cap vs w row).mono fun _ _ ⟨he, hw⟩ => ⟨by rw [he, hr], hw⟩
theorem vright_no {a : Option Addr} {len cap : Nat} {vs : List V3} {w : World} (hr : rightV vs = false) (row : VRow w a len vs) :
    Calls Try.prog 11 #[.slice a len cap] w fun e w' => e = .returned (.bool false) ∧ Below w.heap.size w w' :=
  (vright_any a len cap vs w row).mono fun _ _ ⟨he, hw⟩ => ⟨by rw [he, hr], hw⟩

set_option maxHeartbeats 400000 in
theorem vadd_many (a : Option Addr) (len cap : Nat) (w : World) (h : 1024 < len) (hbig : len ≤ 9223372036854775807) :
    Calls Try.prog 7 #[.slice a len cap] w fun e w' => e = .returned (.tuple #[.agg #[.int .i64 0, .int .i64 0, .int .i64 0], .int .i64 1]) ∧ Below w.heap.size w w' := by
  go_enter Try.func7, Try.ntmps7
  go_wp2
  exact bodyPost_ret (v := .tuple #[.agg #[.int .i64 0, .int .i64 0, .int .i64 0], .int .i64 1]) (by simp [results, Try.results7, go_sem]) rfl ⟨rfl, balloc (alloc_below _ _) _⟩

set_option maxHeartbeats 400000 in
theorem vadd_wrong (a : Option Addr) (len cap : Nat) (vs : List V3) (w : World) (hr : rightV vs = false) (h : len ≤ 1024) (row : VRow w a len vs) :
    Calls Try.prog 7 #[.slice a len cap] w fun e w' => e = .returned (.tuple #[.agg #[.int .i64 0, .int .i64 0, .int .i64 0], .int .i64 1]) ∧ Below w.heap.size w w' := by
  have HRow := Lib.hid row
  have HR := Lib.hid hr
  clear row hr
  go_enter Try.func7, Try.ntmps7
  go_wp2_with fail
  refine (vright_no HR.out (vrow_keep HRow.out (balloc (alloc_below _ _) _))).mono ?_
  rintro e w1 ⟨rfl, b1⟩
  have k1 := Lib.hid (blkAt ((Blk.new (w.alloc _) 25 _).keep b1) (g' := w.heap.size + 1) (by simp))
  have B1 := Lib.hid (bthen (balloc (alloc_below _ _) _) b1)
  clear b1
  obtain ⟨c10, c11, c12, f10, f11, f12⟩ := blk3 k1.out
  go_wp2
  exact bodyPost_ret (v := .tuple #[.agg #[.int .i64 0, .int .i64 0, .int .i64 0], .int .i64 1]) (by simp [results, Try.results7, go_sem, c10, c11, c12]) rfl ⟨rfl, ((B1.out.setCell (by simp) _).setCell (by simp) _).setCell (by simp) _⟩

theorem below_alloc1 {w w1 : World} {o : Obj} (h : Below (w.alloc o).heap.size (w.alloc o) w1) : Below w.heap.size w w1 := bthen (alloc_below _ _) h

set_option maxHeartbeats 400000 in
theorem vadd_ok (a : Option Addr) (len cap : Nat) (vs : List V3) (w : World) (hr : rightV vs = true) (h : len ≤ 1024) (row : VRow w a len vs) :
    Calls Try.prog 7 #[.slice a len cap] w fun e w' => e = .returned (.tuple #[.agg #[.int .i64 (gate (vaddE vs) (addV (col0 vs))), .int .i64 (gate (vaddE vs) (addV (col1 vs))), .int .i64 (gate (vaddE vs) (addV (col2 vs)))], .int .i64 (vaddE vs)]) ∧ Below w.heap.size w w' := by
  have HE := Lib.hid (vaddE_yes (vaddOk_yes row.1 h hr))
  have HRow := Lib.hid row
  have HR := Lib.hid hr
  clear row hr
  go_enter Try.func7, Try.ntmps7
  go_wp2_with fail
  refine (vright_yes HR.out (vrow_keep HRow.out (balloc (alloc_below _ _) _))).mono ?_
  rintro e w1 ⟨rfl, b1⟩
  have k1 := Lib.hid (blkAt ((Blk.new (w.alloc _) 25 _).keep b1) (g' := w.heap.size + 1) (by simp))
  have s1 := Lib.hid (((Blk.new w 22 _).alloc _).keep b1)
  have B1 := Lib.hid (bthen (balloc (alloc_below _ _) _) b1)
  clear b1
  go_wp2_with fail
  refine (build_any 23 #[.pointer (some ⟨w.heap.size, 0, none⟩)] _ enters_add (addV (col0 vs)) (addV (col1 vs)) (addV (col2 vs)) (addE (col0 vs)) (addE (col1 vs)) (addE (col2 vs))
    (fun w' hb => add1_0 _ a len cap vs _ h ((s1.out.keep hb).cell 0) (vrow_keep HRow.out (bthen B1.out hb))) (fun w' hb => add1_1 _ a len cap vs _ h ((s1.out.keep hb).cell 0) (vrow_keep HRow.out (bthen B1.out hb))) (fun w' hb => add1_2 _ a len cap vs _ h ((s1.out.keep hb).cell 0) (vrow_keep HRow.out (bthen B1.out hb)))).mono ?_
  rw [← HE.out]
  rintro e w2 ⟨rfl, b2⟩
  have k2 := Lib.hid (k1.out.keep b2)
  have B2 := Lib.hid (bthen B1.out b2)
  clear b2
  obtain ⟨c10, c11, c12, f10, f11, f12⟩ := blk3 k2.out
  go_wp2
  exact bodyPost_ret (v := .tuple #[.agg #[.int .i64 (gate (vaddE vs) (addV (col0 vs))), .int .i64 (gate (vaddE vs) (addV (col1 vs))), .int .i64 (gate (vaddE vs) (addV (col2 vs)))], .int .i64 (vaddE vs)]) (by simp [results, Try.results7, go_sem, c10, c11, c12]) rfl ⟨rfl, ((B2.out.setCell (by simp) _).setCell (by simp) _).setCell (by simp) _⟩

theorem vadd_any (a : Option Addr) (len cap : Nat) (vs : List V3) (w : World) (row : VRow w a len vs) :
    Calls Try.prog 7 #[.slice a len cap] w fun e w' => e = .returned (.tuple #[.agg #[.int .i64 (gate (vaddE vs) (addV (col0 vs))), .int .i64 (gate (vaddE vs) (addV (col1 vs))), .int .i64 (gate (vaddE vs) (addV (col2 vs)))], .int .i64 (vaddE vs)]) ∧ Below w.heap.size w w' := by
  by_cases hn : 1024 < len
  · rw [vaddE_no (vaddOk_many row.1 hn), gate1, gate1, gate1]
    exact vadd_many a len cap w hn row.2.1
  · by_cases hr : rightV vs = true
    · exact vadd_ok a len cap vs w hr (by omega) row
    · have hr' : rightV vs = false := by simpa using hr
      rw [vaddE_no (vaddOk_wrong hr'), gate1, gate1, gate1]
      exact vadd_wrong a len cap vs w hr' (by omega) row

end Go.Proofs.Ytcmliidkkgkgcaa
