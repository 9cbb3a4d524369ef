/-
  VecTells answers true for every slice of vectors, every two vectors and every number: package vec answers what the document says, or the error. No conditions.
-/
import Derived.Test.YtcmliidkkgkgcaaRows
import Derived.Test.YtcmliidkkgkgcaaVecO
import Derived.WalkKit
import Derived.ProofKit
import Derived.OpenShut
import Derived.ShutString
import Derived.ChangeOld
import Derived.Below
namespace Go.Proofs.Ytcmliidkkgkgcaa.vecTells
open Go.ChangeShapes Go.WideShapes Go.ChangeAt Go.RowKit
set_option linter.unusedVariables false

theorem own : ownKnob Try.prog.godebug = none := by kernel_rfl
theorem laidOut : laidOutB Try.prog = true := by kernel_rfl

set_option maxHeartbeats 400000 in
set_option maxRecDepth 100000 in
theorem walk_many (a : Option Addr) (len cap : Nat) (x0 x1 x2 y0 y1 y2 k : Int) (w : World) (h : 1200 < len) (hbig : len ≤ 9223372036854775807) :
    Calls Try.prog 3 #[.slice a len cap, .agg #[.int .i64 x0, .int .i64 x1, .int .i64 x2, .int .i64 y0, .int .i64 y1, .int .i64 y2], .int .i64 k] w fun e w' => e = .returned (.bool true) ∧ Below w.heap.size w w' := by
  go_enter Try.func3, Try.ntmps3
  go_wp2_with fail
  refine (valive_any _).mono ?_
  rintro e w1 ⟨rfl, b1⟩
  have B1 := Lib.hid (bthen (alloc_below _ _) b1)
  clear b1
  go_wp2
  go_ret
  exact ⟨rfl, B1.out⟩

set_option maxHeartbeats 4000000 in
set_option maxRecDepth 100000 in
theorem walk_few (a : Option Addr) (len cap : Nat) (vs : List V3) (x0 x1 x2 y0 y1 y2 k s0 s1 s2 sE d0 d1 d2 dE p pE m0 m1 m2 mE l0 l1 l2 g0 g1 g2 : Int) (r : Bool) (w : World) (h : len ≤ 1200) (row : VRow w a len vs)
    (h1 : ∀ w', VRow w' a len vs → Calls Try.prog 7 #[.slice a len cap] w' fun e w'' => e = .returned (.tuple #[.agg #[.int .i64 s0, .int .i64 s1, .int .i64 s2], .int .i64 sE]) ∧ Below w'.heap.size w' w'')
    (h2 : ∀ w', VRow w' a len vs → Calls Try.prog 8 #[.slice a len cap] w' fun e w'' => e = .returned (.tuple #[.agg #[.int .i64 s0, .int .i64 s1, .int .i64 s2], .int .i64 sE]) ∧ Below w'.heap.size w' w'')
    (h3 : ∀ w', Calls Try.prog 9 #[.agg #[.int .i64 x0, .int .i64 x1, .int .i64 x2], .agg #[.int .i64 y0, .int .i64 y1, .int .i64 y2]] w' fun e w'' => e = .returned (.tuple #[.agg #[.int .i64 d0, .int .i64 d1, .int .i64 d2], .int .i64 dE]) ∧ Below w'.heap.size w' w'')
    (h4 : ∀ w', Calls Try.prog 10 #[.agg #[.int .i64 x0, .int .i64 x1, .int .i64 x2], .agg #[.int .i64 y0, .int .i64 y1, .int .i64 y2]] w' fun e w'' => e = .returned (.tuple #[.agg #[.int .i64 d0, .int .i64 d1, .int .i64 d2], .int .i64 dE]) ∧ Below w'.heap.size w' w'')
    (h5 : ∀ w', VRow w' a len vs → Calls Try.prog 11 #[.slice a len cap] w' fun e w'' => e = .returned (.bool r) ∧ Below w'.heap.size w' w'')
    (h6 : ∀ w', VRow w' a len vs → Calls Try.prog 12 #[.slice a len cap] w' fun e w'' => e = .returned (.bool r) ∧ Below w'.heap.size w' w'')
    (h7 : ∀ w', Calls Try.prog 13 #[.agg #[.int .i64 x0, .int .i64 x1, .int .i64 x2], .agg #[.int .i64 y0, .int .i64 y1, .int .i64 y2]] w' fun e w'' => e = .returned (.tuple #[.int .i64 p, .int .i64 pE]) ∧ Below w'.heap.size w' w'')
    (h8 : ∀ w', Calls Try.prog 14 #[.agg #[.int .i64 x0, .int .i64 x1, .int .i64 x2], .agg #[.int .i64 y0, .int .i64 y1, .int .i64 y2]] w' fun e w'' => e = .returned (.tuple #[.int .i64 p, .int .i64 pE]) ∧ Below w'.heap.size w' w'')
    (h9 : ∀ w', Calls Try.prog 15 #[.agg #[.int .i64 x0, .int .i64 x1, .int .i64 x2], .int .i64 k] w' fun e w'' => e = .returned (.tuple #[.agg #[.int .i64 m0, .int .i64 m1, .int .i64 m2], .int .i64 mE]) ∧ Below w'.heap.size w' w'')
    (h10 : ∀ w', Calls Try.prog 16 #[.agg #[.int .i64 x0, .int .i64 x1, .int .i64 x2], .int .i64 k] w' fun e w'' => e = .returned (.tuple #[.agg #[.int .i64 m0, .int .i64 m1, .int .i64 m2], .int .i64 mE]) ∧ Below w'.heap.size w' w'')
    (h11 : ∀ w', VRow w' a len vs → Calls Try.prog 17 #[.slice a len cap] w' fun e w'' => e = .returned (.agg #[.int .i64 l0, .int .i64 l1, .int .i64 l2]) ∧ Below w'.heap.size w' w'')
    (h12 : ∀ w', VRow w' a len vs → Calls Try.prog 18 #[.slice a len cap, .bool false] w' fun e w'' => e = .returned (.agg #[.int .i64 l0, .int .i64 l1, .int .i64 l2]) ∧ Below w'.heap.size w' w'')
    (h13 : ∀ w', VRow w' a len vs → Calls Try.prog 19 #[.slice a len cap] w' fun e w'' => e = .returned (.agg #[.int .i64 g0, .int .i64 g1, .int .i64 g2]) ∧ Below w'.heap.size w' w'')
    (h14 : ∀ w', VRow w' a len vs → Calls Try.prog 18 #[.slice a len cap, .bool true] w' fun e w'' => e = .returned (.agg #[.int .i64 g0, .int .i64 g1, .int .i64 g2]) ∧ Below w'.heap.size w' w'') :
    Calls Try.prog 3 #[.slice a len cap, .agg #[.int .i64 x0, .int .i64 x1, .int .i64 x2, .int .i64 y0, .int .i64 y1, .int .i64 y2], .int .i64 k] w fun e w' => e = .returned (.bool true) ∧ Below w.heap.size w w' := by
  have HRow := Lib.hid row
  have Hh1 := Lib.hid h1
  have Hh2 := Lib.hid h2
  have Hh3 := Lib.hid h3
  have Hh4 := Lib.hid h4
  have Hh5 := Lib.hid h5
  have Hh6 := Lib.hid h6
  have Hh7 := Lib.hid h7
  have Hh8 := Lib.hid h8
  have Hh9 := Lib.hid h9
  have Hh10 := Lib.hid h10
  have Hh11 := Lib.hid h11
  have Hh12 := Lib.hid h12
  have Hh13 := Lib.hid h13
  have Hh14 := Lib.hid h14
  clear row h1 h2 h3 h4 h5 h6 h7 h8 h9 h10 h11 h12 h13 h14
  have heq := eqVec
  go_enter Try.func3, Try.ntmps3
  go_wp2_with fail
  refine (Hh1.out _ (vrow_keep HRow.out (balloc (balloc (alloc_below _ _) _) _))).mono ?_
  rintro e w1 ⟨rfl, b1⟩
  have KA := Lib.hid (blkAt (((Blk.new (w.alloc _) 25 _).alloc _).keep b1) (g' := w.heap.size + 1) (by simp))
  have KB := Lib.hid (blkAt ((Blk.new ((w.alloc _).alloc _) 25 _).keep b1) (g' := w.heap.size + 1 + 1) (by simp))
  have B1 := Lib.hid (bthen (balloc (balloc (alloc_below _ _) _) _) b1)
  clear b1
  go_wp2_with fail
  refine (Hh2.out _ (vrow_keep HRow.out (balloc B1.out _))).mono ?_
  rintro e w2 ⟨rfl, b2⟩
  replace KA := Lib.hid ((KA.out.alloc _).keep b2)
  replace KB := Lib.hid ((KB.out.alloc _).keep b2)
  have KS := Lib.hid ((Blk.new w1 25 _).keep b2)
  have B2 := Lib.hid (bthen (balloc B1.out _) b2)
  clear b2
  obtain ⟨cA0, cA1, cA2, _, _, _⟩ := blk3 KA.out
  have zA := KA.out.lt
  obtain ⟨cB0, cB1, cB2, _, _, _⟩ := blk3 KB.out
  have zB := KB.out.lt
  go_wp2_with fail
  refine (Hh3.out _).mono ?_
  rintro e w3 ⟨rfl, b3⟩
  replace KA := Lib.hid ((KA.out.alloc _).keep b3)
  replace KB := Lib.hid ((KB.out.alloc _).keep b3)
  replace KS := Lib.hid ((KS.out.alloc _).keep b3)
  have KT := Lib.hid ((Blk.new w2 25 _).keep b3)
  have B3 := Lib.hid (bthen (balloc B2.out _) b3)
  clear b3
  clear cA0 cA1 cA2 zA
  clear cB0 cB1 cB2 zB
  obtain ⟨cA0, cA1, cA2, _, _, _⟩ := blk3 KA.out
  have zA := KA.out.lt
  obtain ⟨cB0, cB1, cB2, _, _, _⟩ := blk3 KB.out
  have zB := KB.out.lt
  go_wp2_with fail
  refine (Hh4.out _).mono ?_
  rintro e w4 ⟨rfl, b4⟩
  replace KA := Lib.hid ((KA.out.alloc _).keep b4)
  replace KB := Lib.hid ((KB.out.alloc _).keep b4)
  replace KS := Lib.hid ((KS.out.alloc _).keep b4)
  replace KT := Lib.hid ((KT.out.alloc _).keep b4)
  have KD := Lib.hid ((Blk.new w3 25 _).keep b4)
  have B4 := Lib.hid (bthen (balloc B3.out _) b4)
  clear b4
  clear cA0 cA1 cA2 zA
  clear cB0 cB1 cB2 zB
  obtain ⟨cS0, cS1, cS2, _, _, _⟩ := blk3 KS.out
  have zS := KS.out.lt
  obtain ⟨cT0, cT1, cT2, _, _, _⟩ := blk3 KT.out
  have zT := KT.out.lt
  obtain ⟨cD0, cD1, cD2, _, _, _⟩ := blk3 KD.out
  have zD := KD.out.lt
  go_wp2_with fail
  refine (Hh5.out _ (vrow_keep HRow.out (balloc B4.out _))).mono ?_
  rintro e w5 ⟨rfl, b5⟩
  replace KA := Lib.hid ((KA.out.alloc _).keep b5)
  replace KB := Lib.hid ((KB.out.alloc _).keep b5)
  replace KS := Lib.hid ((KS.out.alloc _).keep b5)
  replace KT := Lib.hid ((KT.out.alloc _).keep b5)
  replace KD := Lib.hid ((KD.out.alloc _).keep b5)
  have KM := Lib.hid ((Blk.new w4 25 _).keep b5)
  have B5 := Lib.hid (bthen (balloc B4.out _) b5)
  clear b5
  clear cS0 cS1 cS2 zS
  clear cT0 cT1 cT2 zT
  clear cD0 cD1 cD2 zD
  go_wp2_with fail
  refine (Hh6.out _ (vrow_keep HRow.out B5.out)).mono ?_
  rintro e w6 ⟨rfl, b6⟩
  replace KA := Lib.hid (KA.out.keep b6)
  replace KB := Lib.hid (KB.out.keep b6)
  replace KS := Lib.hid (KS.out.keep b6)
  replace KT := Lib.hid (KT.out.keep b6)
  replace KD := Lib.hid (KD.out.keep b6)
  replace KM := Lib.hid (KM.out.keep b6)
  have B6 := Lib.hid (bthen B5.out b6)
  clear b6
  obtain ⟨cA0, cA1, cA2, _, _, _⟩ := blk3 KA.out
  have zA := KA.out.lt
  obtain ⟨cB0, cB1, cB2, _, _, _⟩ := blk3 KB.out
  have zB := KB.out.lt
  go_wp2_with fail
  refine (Hh7.out _).mono ?_
  rintro e w7 ⟨rfl, b7⟩
  replace KA := Lib.hid (KA.out.keep b7)
  replace KB := Lib.hid (KB.out.keep b7)
  replace KS := Lib.hid (KS.out.keep b7)
  replace KT := Lib.hid (KT.out.keep b7)
  replace KD := Lib.hid (KD.out.keep b7)
  replace KM := Lib.hid (KM.out.keep b7)
  have B7 := Lib.hid (bthen B6.out b7)
  clear b7
  clear cA0 cA1 cA2 zA
  clear cB0 cB1 cB2 zB
  obtain ⟨cA0, cA1, cA2, _, _, _⟩ := blk3 KA.out
  have zA := KA.out.lt
  obtain ⟨cB0, cB1, cB2, _, _, _⟩ := blk3 KB.out
  have zB := KB.out.lt
  go_wp2_with fail
  refine (Hh8.out _).mono ?_
  rintro e w8 ⟨rfl, b8⟩
  replace KA := Lib.hid (KA.out.keep b8)
  replace KB := Lib.hid (KB.out.keep b8)
  replace KS := Lib.hid (KS.out.keep b8)
  replace KT := Lib.hid (KT.out.keep b8)
  replace KD := Lib.hid (KD.out.keep b8)
  replace KM := Lib.hid (KM.out.keep b8)
  have B8 := Lib.hid (bthen B7.out b8)
  clear b8
  clear cA0 cA1 cA2 zA
  clear cB0 cB1 cB2 zB
  obtain ⟨cA0, cA1, cA2, _, _, _⟩ := blk3 KA.out
  have zA := KA.out.lt
  go_wp2_with fail
  refine (Hh9.out _).mono ?_
  rintro e w9 ⟨rfl, b9⟩
  replace KA := Lib.hid (KA.out.keep b9)
  replace KB := Lib.hid (KB.out.keep b9)
  replace KS := Lib.hid (KS.out.keep b9)
  replace KT := Lib.hid (KT.out.keep b9)
  replace KD := Lib.hid (KD.out.keep b9)
  replace KM := Lib.hid (KM.out.keep b9)
  have B9 := Lib.hid (bthen B8.out b9)
  clear b9
  clear cA0 cA1 cA2 zA
  obtain ⟨cA0, cA1, cA2, _, _, _⟩ := blk3 KA.out
  have zA := KA.out.lt
  go_wp2_with fail
  refine (Hh10.out _).mono ?_
  rintro e w10 ⟨rfl, b10⟩
  replace KA := Lib.hid ((KA.out.alloc _).keep b10)
  replace KB := Lib.hid ((KB.out.alloc _).keep b10)
  replace KS := Lib.hid ((KS.out.alloc _).keep b10)
  replace KT := Lib.hid ((KT.out.alloc _).keep b10)
  replace KD := Lib.hid ((KD.out.alloc _).keep b10)
  replace KM := Lib.hid ((KM.out.alloc _).keep b10)
  have KX := Lib.hid ((Blk.new w9 25 _).keep b10)
  have B10 := Lib.hid (bthen (balloc B9.out _) b10)
  clear b10
  clear cA0 cA1 cA2 zA
  go_wp2_with fail
  refine (valive_any _).mono ?_
  rintro e w11 ⟨rfl, b11⟩
  replace KA := Lib.hid ((KA.out.alloc _).keep b11)
  replace KB := Lib.hid ((KB.out.alloc _).keep b11)
  replace KS := Lib.hid ((KS.out.alloc _).keep b11)
  replace KT := Lib.hid ((KT.out.alloc _).keep b11)
  replace KD := Lib.hid ((KD.out.alloc _).keep b11)
  replace KM := Lib.hid ((KM.out.alloc _).keep b11)
  replace KX := Lib.hid ((KX.out.alloc _).keep b11)
  have KY := Lib.hid ((Blk.new w10 25 _).keep b11)
  have B11 := Lib.hid (bthen (balloc B10.out _) b11)
  clear b11
  obtain ⟨cX0, cX1, cX2, _, _, _⟩ := blk3 KX.out
  have zX := KX.out.lt
  obtain ⟨cY0, cY1, cY2, _, _, _⟩ := blk3 KY.out
  have zY := KY.out.lt
  go_wp2_with fail
  refine (Hh11.out _ (vrow_keep HRow.out B11.out)).mono ?_
  rintro e w12 ⟨rfl, b12⟩
  replace KA := Lib.hid (KA.out.keep b12)
  replace KB := Lib.hid (KB.out.keep b12)
  replace KS := Lib.hid (KS.out.keep b12)
  replace KT := Lib.hid (KT.out.keep b12)
  replace KD := Lib.hid (KD.out.keep b12)
  replace KM := Lib.hid (KM.out.keep b12)
  replace KX := Lib.hid (KX.out.keep b12)
  replace KY := Lib.hid (KY.out.keep b12)
  have B12 := Lib.hid (bthen B11.out b12)
  clear b12
  clear cX0 cX1 cX2 zX
  clear cY0 cY1 cY2 zY
  go_wp2_with fail
  refine (Hh12.out _ (vrow_keep HRow.out B12.out)).mono ?_
  rintro e w13 ⟨rfl, b13⟩
  replace KA := Lib.hid (KA.out.keep b13)
  replace KB := Lib.hid (KB.out.keep b13)
  replace KS := Lib.hid (KS.out.keep b13)
  replace KT := Lib.hid (KT.out.keep b13)
  replace KD := Lib.hid (KD.out.keep b13)
  replace KM := Lib.hid (KM.out.keep b13)
  replace KX := Lib.hid (KX.out.keep b13)
  replace KY := Lib.hid (KY.out.keep b13)
  have B13 := Lib.hid (bthen B12.out b13)
  clear b13
  go_wp2_with fail
  refine (Hh13.out _ (vrow_keep HRow.out B13.out)).mono ?_
  rintro e w14 ⟨rfl, b14⟩
  replace KA := Lib.hid (KA.out.keep b14)
  replace KB := Lib.hid (KB.out.keep b14)
  replace KS := Lib.hid (KS.out.keep b14)
  replace KT := Lib.hid (KT.out.keep b14)
  replace KD := Lib.hid (KD.out.keep b14)
  replace KM := Lib.hid (KM.out.keep b14)
  replace KX := Lib.hid (KX.out.keep b14)
  replace KY := Lib.hid (KY.out.keep b14)
  have B14 := Lib.hid (bthen B13.out b14)
  clear b14
  go_wp2_with fail
  refine (Hh14.out _ (vrow_keep HRow.out B14.out)).mono ?_
  rintro e w15 ⟨rfl, b15⟩
  replace KA := Lib.hid (KA.out.keep b15)
  replace KB := Lib.hid (KB.out.keep b15)
  replace KS := Lib.hid (KS.out.keep b15)
  replace KT := Lib.hid (KT.out.keep b15)
  replace KD := Lib.hid (KD.out.keep b15)
  replace KM := Lib.hid (KM.out.keep b15)
  replace KX := Lib.hid (KX.out.keep b15)
  replace KY := Lib.hid (KY.out.keep b15)
  have B15 := Lib.hid (bthen B14.out b15)
  clear b15
  go_wp2
  go_ret
  exact ⟨rfl, B15.out⟩

theorem edge_less {a : Option Addr} {len cap : Nat} {vs : List V3} {w : World} (row : VRow w a len vs) :
    Calls Try.prog 18 #[.slice a len cap, .bool false] w fun e w' => e = .returned (AGG (pk lessB vs)) ∧ Below w.heap.size w w' := redge_any false a len cap vs w row
theorem edge_more {a : Option Addr} {len cap : Nat} {vs : List V3} {w : World} (row : VRow w a len vs) :
    Calls Try.prog 18 #[.slice a len cap, .bool true] w fun e w' => e = .returned (AGG (pk moreB vs)) ∧ Below w.heap.size w w' := redge_any true a len cap vs w row

theorem walk (a : Option Addr) (len cap : Nat) (vs : List V3) (x0 x1 x2 y0 y1 y2 k : Int) (w : World) (row : VRow w a len vs) (hcap : len ≤ cap) (hbig : cap ≤ 9223372036854775807) :
    Calls Try.prog 3 #[.slice a len cap, .agg #[.int .i64 x0, .int .i64 x1, .int .i64 x2, .int .i64 y0, .int .i64 y1, .int .i64 y2], .int .i64 k] w fun e w' => e = .returned (.bool true) ∧ Below w.heap.size w w' := by
  by_cases h : 1200 < len
  · exact walk_many a len cap x0 x1 x2 y0 y1 y2 k w h row.2.1
  · exact walk_few a len cap vs x0 x1 x2 y0 y1 y2 k _ _ _ _ _ _ _ _ _ _ _ _ _ _ _ _ _ _ _ _ _ w (by omega) row
      (fun w' hr => vadd_any a len cap vs w' hr) (fun w' hr => rvadd_any a len cap vs w' hr) (fun w' => vsub_any _ _ _ _ _ _ w') (fun w' => rvsub_any _ _ _ _ _ _ w')
      (fun w' hr => vright_any a len cap vs w' hr) (fun w' hr => rvright_any a len cap vs w' hr) (fun w' => vdot_any _ _ _ _ _ _ w') (fun w' => rvdot_any _ _ _ _ _ _ w')
      (fun w' => vscale_any _ _ _ _ w') (fun w' => rvscale_any _ _ _ _ w')
      (fun w' hr => least_any a len cap vs w' hcap hbig hr) (fun w' hr => edge_less hr) (fun w' hr => greatest_any a len cap vs w' hcap hbig hr) (fun w' hr => edge_more hr)

set_option maxRecDepth 100000 in
theorem lifted (os : Os) (started : os.Started) (H : Type) (enc : TypeId × Value → H) :
    ReturnsInHanded {} Try.checked os 3 .any (Rows.vecTellsSpec.pre6 enc Try.prog Try.f3 Rows.vecTellsRow.domain false) (Rows.vecTellsSpec.post enc Try.prog Try.f3 false true false false) := by
  refine returnsInHanded_of_change (C := Try.checked) own started (by kernel_rfl) Try.func3
    (ChangeSpec.witness6 (enc := enc) (C := Try.checked) false ⟨#[], #[.slice none 0 0, .agg #[.int .i64 0, .int .i64 0, .int .i64 0, .int .i64 0, .int .i64 0, .int .i64 0], .int .i64 0], []⟩ 8 (by kernel_rfl) (by kernel_rfl) (by kernel_rfl) (by kernel_rfl)) ?_
  intro W base args ds gs before hval0 hW hcnd _
  have hval : ∀ (j : Nat) t v, Try.f3.params[j]? = some t → args[j]? = some v → Value.okWide Try.prog W .any base t v := hval0
  have hW' := hW
  obtain ⟨p, q, hA0, hV, rfl, hfz, hnd⟩ := hW
  have hA : DataW.TrodAll enc Try.prog W 0 (fun _ => true) true Try.f3.params.toList args.toList ds p := hA0
  rw [Try.params3] at hA hval
  obtain ⟨v0, vs0, d0, ds0, p0, q0, hargs, rfl, rfl, h0, r0⟩ := trodAll_cons hA
  obtain ⟨v1, vs1, d1, ds1, p1, q1, rfl, rfl, rfl, h1, r1⟩ := trodAll_cons r0
  obtain ⟨v2, vs2, d2, ds2, p2, q2, rfl, rfl, rfl, h2, r2⟩ := trodAll_cons r1
  obtain ⟨rfl, rfl, rfl⟩ := trodAll_nil r2
  obtain rfl : args = #[v0, v1, v2] := by cases args; simp_all
  obtain ⟨rfl, rfl⟩ := trodVars_none hV
  obtain ⟨a0, len0, cap0, rfl⟩ := okWide_slice Try.underlying22 (hval 0 22 v0 rfl rfl)
  have k0 := h0
  have lt0 : ∀ x ∈ p0, x.block < W.heap.size := by obtain ⟨m, hm⟩ := k0; exact DataW.trod_lt m _ _ _ hm
  obtain ⟨vs, row, hcap, hbig⟩ : ∃ vs, VRow W a0 len0 vs ∧ len0 ≤ cap0 ∧ cap0 ≤ 9223372036854775807 := by
    obtain ⟨fuel, hf⟩ := h0
    exact open_vecs (by simpa [Value.cells] using hf)
  have k1 := h1
  have lt1 : ∀ x ∈ p1, x.block < W.heap.size := by obtain ⟨m, hm⟩ := k1; exact DataW.trod_lt m _ _ _ hm
  obtain ⟨x0, x1, x2, y0, y1, y2, rfl⟩ := open_two (hval 1 26 v1 rfl rfl) h1
  obtain ⟨a2, rfl, rfl, rfl, w2⟩ := open_int Try.underlying23 (hval 2 23 v2 rfl rfl) h2
  clear hA0 hval0
  refine (walk a0 len0 cap0 vs x0 x1 x2 y0 y1 y2 a2 W row hcap hbig).mono fun e W' ⟨he, bel⟩ => ?_
  subst he
  exact ⟨_, rfl, _, _, _, [], _, [], hW', trodAll_mk1 (shut_bool Try.underlying4 _), (trodAll_cons_mk (Below.trod laidOut (by kernel_rfl) (of_decide_eq_true (by kernel_rfl)) k0 bel lt0) (trodAll_cons_mk (Below.trod laidOut (by kernel_rfl) (of_decide_eq_true (by kernel_rfl)) k1 bel lt1) (trodAll_cons_mk (shut_int Try.underlying23 w2) trodAll_mk0))), rfl, bel.frame _, fun h => by cases h⟩

theorem over : Rows.vecTellsRow.holds Try.pinned (OpenSpec.ofChange Rows.vecTellsSpec) :=
  OpenClaim.holds_of_wide 3 Try.f3 rfl rfl rfl rfl rfl rfl rfl ⟨rfl, rfl, rfl, rfl, rfl⟩ rfl rfl rfl rfl rfl (by kernel_rfl) Try.func3 (by kernel_rfl)
    (of_decide_eq_true (by kernel_rfl)) (by unfold Func.isWrapper; first | (rw [if_pos (by decide +kernel)]; kernel_rfl) | (rw [if_neg (by decide +kernel)]; exact ⟨rfl, rfl⟩))
    (fun os started H enc _ => lifted os started H enc)

end Go.Proofs.Ytcmliidkkgkgcaa.vecTells
namespace Go.Proofs.Ytcmliidkkgkgcaa
theorem vecTells_holds : Rows.VecTellsSaid := vecTells.over
#print axioms vecTells_holds
end Go.Proofs.Ytcmliidkkgkgcaa
