/-
  The walk of AffineNumbers, its calls by their contracts.
-/
import Derived.Test.YtjdoneacbnalaaaAffR2
import Derived.WalkKit
import Derived.ProofKit
import Derived.OpenShut
import Derived.ShutString
import Derived.ChangeOld
import Derived.Below
import Derived.Deep.Cut
import Derived.Deep.CutRange
namespace Go.Proofs.Ytjdoneacbnalaaa.affineNumbers
open Go.ChangeShapes Go.WideShapes Go.ChangeAt Go.RowKit
set_option linter.unusedVariables false

theorem own : ownKnob Try.prog.godebug = none := by kernel_rfl
theorem laidOut : laidOutB Try.prog = true := by kernel_rfl

theorem rright12b {M : Nat → Int} {b : Bool} (ho : okM M = b) {w : World} {g cap : Nat} {t : TypeId} (h : Blk w g t #[.int .i64 (M 0), .int .i64 (M 1), .int .i64 (M 2), .int .i64 (M 3), .int .i64 (M 4), .int .i64 (M 5), .int .i64 (M 6), .int .i64 (M 7), .int .i64 (M 8), .int .i64 (M 9), .int .i64 (M 10), .int .i64 (M 11)]) :
    Calls Try.prog 22 #[.slice (some ⟨g, 0, none⟩) 12 cap] w fun e w' => e = .returned (.bool b) ∧ w = w' :=
  (rright12 h).mono fun _ _ ⟨he, hw⟩ => ⟨by rw [he, ho], hw⟩

set_option maxHeartbeats 8000000 in
set_option maxRecDepth 100000 in
theorem walk_gen (a b c A B C AB BC X1 X2 P Q R m v : Nat → Int) (ee ef eg eh ei ej ek : Int) (w : World)
    (hma : ∀ w', Calls Try.prog 21 #[.agg #[.int .i8 (a 0), .int .i8 (a 1), .int .i8 (a 2), .int .i8 (a 3), .int .i8 (a 4), .int .i8 (a 5), .int .i8 (a 6), .int .i8 (a 7), .int .i8 (a 8), .int .i8 (a 9), .int .i8 (a 10), .int .i8 (a 11)]] w' fun e w'' => e = .returned (.agg #[.int .i64 (A 0), .int .i64 (A 1), .int .i64 (A 2), .int .i64 (A 3), .int .i64 (A 4), .int .i64 (A 5), .int .i64 (A 6), .int .i64 (A 7), .int .i64 (A 8), .int .i64 (A 9), .int .i64 (A 10), .int .i64 (A 11)]) ∧ Below w'.heap.size w' w'')
    (hmb : ∀ w', Calls Try.prog 21 #[.agg #[.int .i8 (b 0), .int .i8 (b 1), .int .i8 (b 2), .int .i8 (b 3), .int .i8 (b 4), .int .i8 (b 5), .int .i8 (b 6), .int .i8 (b 7), .int .i8 (b 8), .int .i8 (b 9), .int .i8 (b 10), .int .i8 (b 11)]] w' fun e w'' => e = .returned (.agg #[.int .i64 (B 0), .int .i64 (B 1), .int .i64 (B 2), .int .i64 (B 3), .int .i64 (B 4), .int .i64 (B 5), .int .i64 (B 6), .int .i64 (B 7), .int .i64 (B 8), .int .i64 (B 9), .int .i64 (B 10), .int .i64 (B 11)]) ∧ Below w'.heap.size w' w'')
    (hmc : ∀ w', Calls Try.prog 21 #[.agg #[.int .i8 (c 0), .int .i8 (c 1), .int .i8 (c 2), .int .i8 (c 3), .int .i8 (c 4), .int .i8 (c 5), .int .i8 (c 6), .int .i8 (c 7), .int .i8 (c 8), .int .i8 (c 9), .int .i8 (c 10), .int .i8 (c 11)]] w' fun e w'' => e = .returned (.agg #[.int .i64 (C 0), .int .i64 (C 1), .int .i64 (C 2), .int .i64 (C 3), .int .i64 (C 4), .int .i64 (C 5), .int .i64 (C 6), .int .i64 (C 7), .int .i64 (C 8), .int .i64 (C 9), .int .i64 (C 10), .int .i64 (C 11)]) ∧ Below w'.heap.size w' w'')
    (hab : ∀ w' s, MRow w' s 2 [A, B] → Calls Try.prog 8 #[.slice s 2 2] w' fun e w'' => e = .returned (.tuple #[.agg #[.int .i64 (AB 0), .int .i64 (AB 1), .int .i64 (AB 2), .int .i64 (AB 3), .int .i64 (AB 4), .int .i64 (AB 5), .int .i64 (AB 6), .int .i64 (AB 7), .int .i64 (AB 8), .int .i64 (AB 9), .int .i64 (AB 10), .int .i64 (AB 11)], .int .i64 ee]) ∧ Below w'.heap.size w' w'')
    (hbc : ∀ w' s, MRow w' s 2 [B, C] → Calls Try.prog 8 #[.slice s 2 2] w' fun e w'' => e = .returned (.tuple #[.agg #[.int .i64 (BC 0), .int .i64 (BC 1), .int .i64 (BC 2), .int .i64 (BC 3), .int .i64 (BC 4), .int .i64 (BC 5), .int .i64 (BC 6), .int .i64 (BC 7), .int .i64 (BC 8), .int .i64 (BC 9), .int .i64 (BC 10), .int .i64 (BC 11)], .int .i64 ef]) ∧ Below w'.heap.size w' w'')
    (hone : ∀ w' s, MRow w' s 2 [AB, C] → Calls Try.prog 8 #[.slice s 2 2] w' fun e w'' => e = .returned (.tuple #[.agg #[.int .i64 (X1 0), .int .i64 (X1 1), .int .i64 (X1 2), .int .i64 (X1 3), .int .i64 (X1 4), .int .i64 (X1 5), .int .i64 (X1 6), .int .i64 (X1 7), .int .i64 (X1 8), .int .i64 (X1 9), .int .i64 (X1 10), .int .i64 (X1 11)], .int .i64 eg]) ∧ Below w'.heap.size w' w'')
    (htwo : ∀ w' s, MRow w' s 2 [A, BC] → Calls Try.prog 8 #[.slice s 2 2] w' fun e w'' => e = .returned (.tuple #[.agg #[.int .i64 (X2 0), .int .i64 (X2 1), .int .i64 (X2 2), .int .i64 (X2 3), .int .i64 (X2 4), .int .i64 (X2 5), .int .i64 (X2 6), .int .i64 (X2 7), .int .i64 (X2 8), .int .i64 (X2 9), .int .i64 (X2 10), .int .i64 (X2 11)], .int .i64 eh]) ∧ Below w'.heap.size w' w'')
    (hp : ∀ w', Calls Try.prog 10 #[.agg #[.int .i64 (AB 0), .int .i64 (AB 1), .int .i64 (AB 2), .int .i64 (AB 3), .int .i64 (AB 4), .int .i64 (AB 5), .int .i64 (AB 6), .int .i64 (AB 7), .int .i64 (AB 8), .int .i64 (AB 9), .int .i64 (AB 10), .int .i64 (AB 11)], .agg #[.int .i64 (C 0), .int .i64 (C 5), .int .i64 (C 10)]] w' fun e w'' => e = .returned (.tuple #[.agg #[.int .i64 (P 0), .int .i64 (P 1), .int .i64 (P 2)], .int .i64 ei]) ∧ Below w'.heap.size w' w'')
    (hqq : ∀ w', Calls Try.prog 10 #[.agg #[.int .i64 (B 0), .int .i64 (B 1), .int .i64 (B 2), .int .i64 (B 3), .int .i64 (B 4), .int .i64 (B 5), .int .i64 (B 6), .int .i64 (B 7), .int .i64 (B 8), .int .i64 (B 9), .int .i64 (B 10), .int .i64 (B 11)], .agg #[.int .i64 (C 0), .int .i64 (C 5), .int .i64 (C 10)]] w' fun e w'' => e = .returned (.tuple #[.agg #[.int .i64 (Q 0), .int .i64 (Q 1), .int .i64 (Q 2)], .int .i64 ej]) ∧ Below w'.heap.size w' w'')
    (hr : ∀ w', Calls Try.prog 10 #[.agg #[.int .i64 (A 0), .int .i64 (A 1), .int .i64 (A 2), .int .i64 (A 3), .int .i64 (A 4), .int .i64 (A 5), .int .i64 (A 6), .int .i64 (A 7), .int .i64 (A 8), .int .i64 (A 9), .int .i64 (A 10), .int .i64 (A 11)], .agg #[.int .i64 (Q 0), .int .i64 (Q 1), .int .i64 (Q 2)]] w' fun e w'' => e = .returned (.tuple #[.agg #[.int .i64 (R 0), .int .i64 (R 1), .int .i64 (R 2)], .int .i64 ek]) ∧ Below w'.heap.size w' w'')
    (hq1 : ee = 0 → ef = 0 → eg = 0 → eh = 0 → ∀ k, k < 12 → X2 k = X1 k)
    (hq2 : ee = 0 → ei = 0 → ej = 0 → ek = 0 → ∀ k, k < 3 → R k = P k)
    (hok : (okM m = true ∧ okV3 v = true) ∨ (okM m = false ∧ okV3 v = true) ∨ (okM m = false ∧ okV3 v = false) ∨ (okM m = true ∧ okV3 v = false))
    (hah : okM m = true → ∀ w' s, MRow w' s 2 [sameM, m] → Calls Try.prog 8 #[.slice s 2 2] w' fun e w'' => e = .returned (.tuple #[.agg #[.int .i64 (m 0), .int .i64 (m 1), .int .i64 (m 2), .int .i64 (m 3), .int .i64 (m 4), .int .i64 (m 5), .int .i64 (m 6), .int .i64 (m 7), .int .i64 (m 8), .int .i64 (m 9), .int .i64 (m 10), .int .i64 (m 11)], .int .i64 0]) ∧ Below w'.heap.size w' w'')
    (hbe : okM m = true → ∀ w' s, MRow w' s 2 [m, sameM] → Calls Try.prog 8 #[.slice s 2 2] w' fun e w'' => e = .returned (.tuple #[.agg #[.int .i64 (m 0), .int .i64 (m 1), .int .i64 (m 2), .int .i64 (m 3), .int .i64 (m 4), .int .i64 (m 5), .int .i64 (m 6), .int .i64 (m 7), .int .i64 (m 8), .int .i64 (m 9), .int .i64 (m 10), .int .i64 (m 11)], .int .i64 0]) ∧ Below w'.heap.size w' w'')
    (hyy : okV3 v = true → ∀ w', Calls Try.prog 10 #[.agg #[.int .i64 65536, .int .i64 0, .int .i64 0, .int .i64 0, .int .i64 0, .int .i64 65536, .int .i64 0, .int .i64 0, .int .i64 0, .int .i64 0, .int .i64 65536, .int .i64 0], .agg #[.int .i64 (v 0), .int .i64 (v 1), .int .i64 (v 2)]] w' fun e w'' => e = .returned (.tuple #[.agg #[.int .i64 (v 0), .int .i64 (v 1), .int .i64 (v 2)], .int .i64 0]) ∧ Below w'.heap.size w' w'') :
    Calls Try.prog 5 #[.agg #[.int .i8 (a 0), .int .i8 (a 1), .int .i8 (a 2), .int .i8 (a 3), .int .i8 (a 4), .int .i8 (a 5), .int .i8 (a 6), .int .i8 (a 7), .int .i8 (a 8), .int .i8 (a 9), .int .i8 (a 10), .int .i8 (a 11), .int .i8 (b 0), .int .i8 (b 1), .int .i8 (b 2), .int .i8 (b 3), .int .i8 (b 4), .int .i8 (b 5), .int .i8 (b 6), .int .i8 (b 7), .int .i8 (b 8), .int .i8 (b 9), .int .i8 (b 10), .int .i8 (b 11), .int .i8 (c 0), .int .i8 (c 1), .int .i8 (c 2), .int .i8 (c 3), .int .i8 (c 4), .int .i8 (c 5), .int .i8 (c 6), .int .i8 (c 7), .int .i8 (c 8), .int .i8 (c 9), .int .i8 (c 10), .int .i8 (c 11)], .agg #[.int .i64 (m 0), .int .i64 (m 1), .int .i64 (m 2), .int .i64 (m 3), .int .i64 (m 4), .int .i64 (m 5), .int .i64 (m 6), .int .i64 (m 7), .int .i64 (m 8), .int .i64 (m 9), .int .i64 (m 10), .int .i64 (m 11)], .agg #[.int .i64 (v 0), .int .i64 (v 1), .int .i64 (v 2)]] w fun e w' => e = .returned (.bool true) ∧ Below w.heap.size w w' := by
  have Hma := Lib.hid hma
  have Hmb := Lib.hid hmb
  have Hmc := Lib.hid hmc
  have Hab := Lib.hid hab
  have Hbc := Lib.hid hbc
  have Hone := Lib.hid hone
  have Htwo := Lib.hid htwo
  have Hp := Lib.hid hp
  have Hqq := Lib.hid hqq
  have Hr := Lib.hid hr
  have HQ1 := Lib.hid hq1
  have HQ2 := Lib.hid hq2
  clear hma hmb hmc hab hbc hone htwo hp hqq hr hq1 hq2
  have heq := eqVec
  have heqM := eqMat
  go_enter Try.func5, Try.ntmps5
  have HB := Lib.hid (Below.refl w.heap.size w)
  go_wp2_with fail
  refine (Hma.out _).mono ?_
  rintro e w1 ⟨rfl, b1⟩
  have KT := Lib.hid (Blk.keep (((Blk.new w 45 _).alloc _).alloc _) (b1))
  have KM := Lib.hid (blkAt (Blk.keep ((Blk.new (w.alloc _) 25 _).alloc _) (b1)) (g' := w.heap.size + 1) (by simp))
  have KV := Lib.hid (blkAt (Blk.keep (Blk.new ((w.alloc _).alloc _) 27 _) (b1)) (g' := w.heap.size + 2) (by simp))
  replace HB := Lib.hid (bthen (balloc (balloc (balloc HB.out _) _) _) (b1))
  clear b1
  have t0 : w1.cell? ⟨w.heap.size, 12, none⟩ = some (.int .i8 (b 0)) := KT.out.cell 12
  have t1 : w1.cell? ⟨w.heap.size, 13, none⟩ = some (.int .i8 (b 1)) := KT.out.cell 13
  have t2 : w1.cell? ⟨w.heap.size, 14, none⟩ = some (.int .i8 (b 2)) := KT.out.cell 14
  have t3 : w1.cell? ⟨w.heap.size, 15, none⟩ = some (.int .i8 (b 3)) := KT.out.cell 15
  have t4 : w1.cell? ⟨w.heap.size, 16, none⟩ = some (.int .i8 (b 4)) := KT.out.cell 16
  have t5 : w1.cell? ⟨w.heap.size, 17, none⟩ = some (.int .i8 (b 5)) := KT.out.cell 17
  have t6 : w1.cell? ⟨w.heap.size, 18, none⟩ = some (.int .i8 (b 6)) := KT.out.cell 18
  have t7 : w1.cell? ⟨w.heap.size, 19, none⟩ = some (.int .i8 (b 7)) := KT.out.cell 19
  have t8 : w1.cell? ⟨w.heap.size, 20, none⟩ = some (.int .i8 (b 8)) := KT.out.cell 20
  have t9 : w1.cell? ⟨w.heap.size, 21, none⟩ = some (.int .i8 (b 9)) := KT.out.cell 21
  have t10 : w1.cell? ⟨w.heap.size, 22, none⟩ = some (.int .i8 (b 10)) := KT.out.cell 22
  have t11 : w1.cell? ⟨w.heap.size, 23, none⟩ = some (.int .i8 (b 11)) := KT.out.cell 23
  have zT := Blk.lt KT.out
  go_wp2_with fail
  refine (Hmb.out _).mono ?_
  rintro e w2 ⟨rfl, b1⟩
  clear t0 t1 t2 t3 t4 t5 t6 t7 t8 t9 t10 t11 zT
  replace KT := Lib.hid (Blk.keep (KT.out.alloc _) (b1))
  replace KM := Lib.hid (Blk.keep (KM.out.alloc _) (b1))
  replace KV := Lib.hid (Blk.keep (KV.out.alloc _) (b1))
  have KA := Lib.hid (Blk.keep (Blk.new w1 25 _) (b1))
  replace HB := Lib.hid (bthen (balloc HB.out _) (b1))
  clear b1
  have t0 : w2.cell? ⟨w.heap.size, 24, none⟩ = some (.int .i8 (c 0)) := KT.out.cell 24
  have t1 : w2.cell? ⟨w.heap.size, 25, none⟩ = some (.int .i8 (c 1)) := KT.out.cell 25
  have t2 : w2.cell? ⟨w.heap.size, 26, none⟩ = some (.int .i8 (c 2)) := KT.out.cell 26
  have t3 : w2.cell? ⟨w.heap.size, 27, none⟩ = some (.int .i8 (c 3)) := KT.out.cell 27
  have t4 : w2.cell? ⟨w.heap.size, 28, none⟩ = some (.int .i8 (c 4)) := KT.out.cell 28
  have t5 : w2.cell? ⟨w.heap.size, 29, none⟩ = some (.int .i8 (c 5)) := KT.out.cell 29
  have t6 : w2.cell? ⟨w.heap.size, 30, none⟩ = some (.int .i8 (c 6)) := KT.out.cell 30
  have t7 : w2.cell? ⟨w.heap.size, 31, none⟩ = some (.int .i8 (c 7)) := KT.out.cell 31
  have t8 : w2.cell? ⟨w.heap.size, 32, none⟩ = some (.int .i8 (c 8)) := KT.out.cell 32
  have t9 : w2.cell? ⟨w.heap.size, 33, none⟩ = some (.int .i8 (c 9)) := KT.out.cell 33
  have t10 : w2.cell? ⟨w.heap.size, 34, none⟩ = some (.int .i8 (c 10)) := KT.out.cell 34
  have t11 : w2.cell? ⟨w.heap.size, 35, none⟩ = some (.int .i8 (c 11)) := KT.out.cell 35
  have zT := Blk.lt KT.out
  go_wp2_with fail
  refine (Hmc.out _).mono ?_
  rintro e w3 ⟨rfl, b1⟩
  clear t0 t1 t2 t3 t4 t5 t6 t7 t8 t9 t10 t11 zT
  clear KT
  replace KM := Lib.hid (Blk.keep (KM.out.alloc _) (b1))
  replace KV := Lib.hid (Blk.keep (KV.out.alloc _) (b1))
  replace KA := Lib.hid (Blk.keep (KA.out.alloc _) (b1))
  have KB := Lib.hid (Blk.keep (Blk.new w2 25 _) (b1))
  replace HB := Lib.hid (bthen (balloc HB.out _) (b1))
  clear b1
  obtain ⟨cA_0, cA_1, cA_2, cA_3, cA_4, cA_5, cA_6, cA_7, cA_8, cA_9, cA_10, cA_11, _, _, _, _, _, _, _, _, _, _, _, _⟩ := blk12 KA.out
  have zA := Blk.lt KA.out
  obtain ⟨cB_0, cB_1, cB_2, cB_3, cB_4, cB_5, cB_6, cB_7, cB_8, cB_9, cB_10, cB_11, _, _, _, _, _, _, _, _, _, _, _, _⟩ := blk12 KB.out
  have zB := Blk.lt KB.out
  go_wp2_with fail
  refine (Hab.out _ _ (mrow2 (A := A) (B := B) (blkAt (Blk.new _ _ _) (by simp)))).mono ?_
  rintro e w4 ⟨rfl, b1⟩
  clear cA_0 cA_1 cA_2 cA_3 cA_4 cA_5 cA_6 cA_7 cA_8 cA_9 cA_10 cA_11 zA
  clear cB_0 cB_1 cB_2 cB_3 cB_4 cB_5 cB_6 cB_7 cB_8 cB_9 cB_10 cB_11 zB
  replace KM := Lib.hid (Blk.keep (((KM.out.alloc _).alloc _).alloc _) (b1))
  replace KV := Lib.hid (Blk.keep (((KV.out.alloc _).alloc _).alloc _) (b1))
  replace KA := Lib.hid (Blk.keep (((KA.out.alloc _).alloc _).alloc _) (b1))
  replace KB := Lib.hid (Blk.keep (((KB.out.alloc _).alloc _).alloc _) (b1))
  have KC := Lib.hid (Blk.keep (((Blk.new w3 25 _).alloc _).alloc _) (b1))
  have KX := Lib.hid (blkAt (Blk.keep ((Blk.new (w3.alloc _) 27 _).alloc _) (b1)) (g' := w3.heap.size + 1) (by simp))
  replace HB := Lib.hid (bthen (balloc (balloc (balloc HB.out _) _) _) (b1))
  clear b1
  obtain ⟨cB_0, cB_1, cB_2, cB_3, cB_4, cB_5, cB_6, cB_7, cB_8, cB_9, cB_10, cB_11, _, _, _, _, _, _, _, _, _, _, _, _⟩ := blk12 KB.out
  have zB := Blk.lt KB.out
  obtain ⟨cC_0, cC_1, cC_2, cC_3, cC_4, cC_5, cC_6, cC_7, cC_8, cC_9, cC_10, cC_11, _, _, _, _, _, _, _, _, _, _, _, _⟩ := blk12 KC.out
  have zC := Blk.lt KC.out
  go_wp2_with fail
  refine (Hbc.out _ _ (mrow2 (A := B) (B := C) (blkAt (Blk.new _ _ _) (by simp)))).mono ?_
  rintro e w5 ⟨rfl, b1⟩
  clear cB_0 cB_1 cB_2 cB_3 cB_4 cB_5 cB_6 cB_7 cB_8 cB_9 cB_10 cB_11 zB
  clear cC_0 cC_1 cC_2 cC_3 cC_4 cC_5 cC_6 cC_7 cC_8 cC_9 cC_10 cC_11 zC
  replace KM := Lib.hid (Blk.keep ((KM.out.alloc _).alloc _) (b1))
  replace KV := Lib.hid (Blk.keep ((KV.out.alloc _).alloc _) (b1))
  replace KA := Lib.hid (Blk.keep ((KA.out.alloc _).alloc _) (b1))
  replace KB := Lib.hid (Blk.keep ((KB.out.alloc _).alloc _) (b1))
  replace KC := Lib.hid (Blk.keep ((KC.out.alloc _).alloc _) (b1))
  replace KX := Lib.hid (Blk.keep ((KX.out.alloc _).alloc _) (b1))
  have KAB := Lib.hid (Blk.keep ((Blk.new w4 25 _).alloc _) (b1))
  replace HB := Lib.hid (bthen (balloc (balloc HB.out _) _) (b1))
  clear b1
  obtain ⟨cAB_0, cAB_1, cAB_2, cAB_3, cAB_4, cAB_5, cAB_6, cAB_7, cAB_8, cAB_9, cAB_10, cAB_11, _, _, _, _, _, _, _, _, _, _, _, _⟩ := blk12 KAB.out
  have zAB := Blk.lt KAB.out
  obtain ⟨cC_0, cC_1, cC_2, cC_3, cC_4, cC_5, cC_6, cC_7, cC_8, cC_9, cC_10, cC_11, _, _, _, _, _, _, _, _, _, _, _, _⟩ := blk12 KC.out
  have zC := Blk.lt KC.out
  go_wp2_with fail
  refine (Hone.out _ _ (mrow2 (A := AB) (B := C) (blkAt (Blk.new _ _ _) (by simp)))).mono ?_
  rintro e w6 ⟨rfl, b1⟩
  clear cAB_0 cAB_1 cAB_2 cAB_3 cAB_4 cAB_5 cAB_6 cAB_7 cAB_8 cAB_9 cAB_10 cAB_11 zAB
  clear cC_0 cC_1 cC_2 cC_3 cC_4 cC_5 cC_6 cC_7 cC_8 cC_9 cC_10 cC_11 zC
  replace KM := Lib.hid (Blk.keep ((KM.out.alloc _).alloc _) (b1))
  replace KV := Lib.hid (Blk.keep ((KV.out.alloc _).alloc _) (b1))
  replace KA := Lib.hid (Blk.keep ((KA.out.alloc _).alloc _) (b1))
  replace KB := Lib.hid (Blk.keep ((KB.out.alloc _).alloc _) (b1))
  replace KC := Lib.hid (Blk.keep ((KC.out.alloc _).alloc _) (b1))
  replace KX := Lib.hid (Blk.keep ((KX.out.alloc _).alloc _) (b1))
  replace KAB := Lib.hid (Blk.keep ((KAB.out.alloc _).alloc _) (b1))
  have KBC := Lib.hid (Blk.keep ((Blk.new w5 25 _).alloc _) (b1))
  replace HB := Lib.hid (bthen (balloc (balloc HB.out _) _) (b1))
  clear b1
  obtain ⟨cA_0, cA_1, cA_2, cA_3, cA_4, cA_5, cA_6, cA_7, cA_8, cA_9, cA_10, cA_11, _, _, _, _, _, _, _, _, _, _, _, _⟩ := blk12 KA.out
  have zA := Blk.lt KA.out
  obtain ⟨cBC_0, cBC_1, cBC_2, cBC_3, cBC_4, cBC_5, cBC_6, cBC_7, cBC_8, cBC_9, cBC_10, cBC_11, _, _, _, _, _, _, _, _, _, _, _, _⟩ := blk12 KBC.out
  have zBC := Blk.lt KBC.out
  go_wp2_with fail
  refine (Htwo.out _ _ (mrow2 (A := A) (B := BC) (blkAt (Blk.new _ _ _) (by simp)))).mono ?_
  rintro e w7 ⟨rfl, b1⟩
  clear cA_0 cA_1 cA_2 cA_3 cA_4 cA_5 cA_6 cA_7 cA_8 cA_9 cA_10 cA_11 zA
  clear cBC_0 cBC_1 cBC_2 cBC_3 cBC_4 cBC_5 cBC_6 cBC_7 cBC_8 cBC_9 cBC_10 cBC_11 zBC
  replace KM := Lib.hid (Blk.keep ((KM.out.alloc _).alloc _) (b1))
  replace KV := Lib.hid (Blk.keep ((KV.out.alloc _).alloc _) (b1))
  replace KA := Lib.hid (Blk.keep ((KA.out.alloc _).alloc _) (b1))
  replace KB := Lib.hid (Blk.keep ((KB.out.alloc _).alloc _) (b1))
  replace KC := Lib.hid (Blk.keep ((KC.out.alloc _).alloc _) (b1))
  replace KX := Lib.hid (Blk.keep ((KX.out.alloc _).alloc _) (b1))
  replace KAB := Lib.hid (Blk.keep ((KAB.out.alloc _).alloc _) (b1))
  replace KBC := Lib.hid (Blk.keep ((KBC.out.alloc _).alloc _) (b1))
  have KONE := Lib.hid (Blk.keep ((Blk.new w6 25 _).alloc _) (b1))
  replace HB := Lib.hid (bthen (balloc (balloc HB.out _) _) (b1))
  clear b1
  go_upto_region 9 with fail
  refine fin (fun W => Blk W (w.heap.size + 1) 25 #[.int .i64 (m 0), .int .i64 (m 1), .int .i64 (m 2), .int .i64 (m 3), .int .i64 (m 4), .int .i64 (m 5), .int .i64 (m 6), .int .i64 (m 7), .int .i64 (m 8), .int .i64 (m 9), .int .i64 (m 10), .int .i64 (m 11)] ∧ Blk W (w.heap.size + 2) 27 #[.int .i64 (v 0), .int .i64 (v 1), .int .i64 (v 2)] ∧ Blk W (w1.heap.size) 25 #[.int .i64 (A 0), .int .i64 (A 1), .int .i64 (A 2), .int .i64 (A 3), .int .i64 (A 4), .int .i64 (A 5), .int .i64 (A 6), .int .i64 (A 7), .int .i64 (A 8), .int .i64 (A 9), .int .i64 (A 10), .int .i64 (A 11)] ∧ Blk W (w2.heap.size) 25 #[.int .i64 (B 0), .int .i64 (B 1), .int .i64 (B 2), .int .i64 (B 3), .int .i64 (B 4), .int .i64 (B 5), .int .i64 (B 6), .int .i64 (B 7), .int .i64 (B 8), .int .i64 (B 9), .int .i64 (B 10), .int .i64 (B 11)] ∧ Blk W (w3.heap.size + 1) 27 #[.int .i64 (C 0), .int .i64 (C 5), .int .i64 (C 10)] ∧ Blk W (w4.heap.size) 25 #[.int .i64 (AB 0), .int .i64 (AB 1), .int .i64 (AB 2), .int .i64 (AB 3), .int .i64 (AB 4), .int .i64 (AB 5), .int .i64 (AB 6), .int .i64 (AB 7), .int .i64 (AB 8), .int .i64 (AB 9), .int .i64 (AB 10), .int .i64 (AB 11)] ∧ Blk W (w6.heap.size) 25 #[.int .i64 (X1 0), .int .i64 (X1 1), .int .i64 (X1 2), .int .i64 (X1 3), .int .i64 (X1 4), .int .i64 (X1 5), .int .i64 (X1 6), .int .i64 (X1 7), .int .i64 (X1 8), .int .i64 (X1 9), .int .i64 (X1 10), .int .i64 (X1 11)] ∧ Blk W (w7.heap.size) 25 #[.int .i64 (X2 0), .int .i64 (X2 1), .int .i64 (X2 2), .int .i64 (X2 3), .int .i64 (X2 4), .int .i64 (X2 5), .int .i64 (X2 6), .int .i64 (X2 7), .int .i64 (X2 8), .int .i64 (X2 9), .int .i64 (X2 10), .int .i64 (X2 11)] ∧ Below w.heap.size w W) ⟨(KM.out.alloc _), (KV.out.alloc _), (KA.out.alloc _), (KB.out.alloc _), (KX.out.alloc _), (KAB.out.alloc _), (KONE.out.alloc _), (Blk.new w7 _ _), (balloc HB.out _)⟩ ?_
  clear HB KM KV KA KB KC KX KAB KBC KONE
  rintro w8 ⟨kM, kV, kA, kB, kX, kAB, kONE, kTWO, hb⟩
  have KM := Lib.hid kM
  have KV := Lib.hid kV
  have KA := Lib.hid kA
  have KB := Lib.hid kB
  have KX := Lib.hid kX
  have KAB := Lib.hid kAB
  have KONE := Lib.hid kONE
  have KTWO := Lib.hid kTWO
  have HB := Lib.hid hb
  clear hb kM kV kA kB kX kAB kONE kTWO
  go_cut [95] from 33 to 95 (fun s wx => s = .bool false ∧ wx = w8)
  case first =>
    by_cases hee : ee = 0
    · have gee : (ee == 0) = true := by rw [hee]; rfl
      by_cases hef : ef = 0
      · have gef : (ef == 0) = true := by rw [hef]; rfl
        by_cases heg : eg = 0
        · have geg : (eg == 0) = true := by rw [heg]; rfl
          by_cases heh : eh = 0
          · have geh : (eh == 0) = true := by rw [heh]; rfl
            have hq := HQ1.out hee hef heg heh
            have q0 : X2 0 = X1 0 := hq 0 (by omega)
            have q1 : X2 1 = X1 1 := hq 1 (by omega)
            have q2 : X2 2 = X1 2 := hq 2 (by omega)
            have q3 : X2 3 = X1 3 := hq 3 (by omega)
            have q4 : X2 4 = X1 4 := hq 4 (by omega)
            have q5 : X2 5 = X1 5 := hq 5 (by omega)
            have q6 : X2 6 = X1 6 := hq 6 (by omega)
            have q7 : X2 7 = X1 7 := hq 7 (by omega)
            have q8 : X2 8 = X1 8 := hq 8 (by omega)
            have q9 : X2 9 = X1 9 := hq 9 (by omega)
            have q10 : X2 10 = X1 10 := hq 10 (by omega)
            have q11 : X2 11 = X1 11 := hq 11 (by omega)
            clear hq hee hef heg heh
            obtain ⟨cONE_0, cONE_1, cONE_2, cONE_3, cONE_4, cONE_5, cONE_6, cONE_7, cONE_8, cONE_9, cONE_10, cONE_11, _, _, _, _, _, _, _, _, _, _, _, _⟩ := blk12 KONE.out
            obtain ⟨cTWO_0, cTWO_1, cTWO_2, cTWO_3, cTWO_4, cTWO_5, cTWO_6, cTWO_7, cTWO_8, cTWO_9, cTWO_10, cTWO_11, _, _, _, _, _, _, _, _, _, _, _, _⟩ := blk12 KTWO.out
            go_wp2
            go_meet
            exact ⟨rfl, rfl⟩
          · have geh : (eh == 0) = false := by simpa using heh
            clear hee hef heg heh
            go_wp2
            go_meet
            exact ⟨rfl, rfl⟩
        · have geg : (eg == 0) = false := by simpa using heg
          clear hee hef heg
          go_wp2
          go_meet
          exact ⟨rfl, rfl⟩
      · have gef : (ef == 0) = false := by simpa using hef
        clear hee hef
        go_wp2
        go_meet
        exact ⟨rfl, rfl⟩
    · have gee : (ee == 0) = false := by simpa using hee
      clear hee
      go_wp2
      go_meet
      exact ⟨rfl, rfl⟩
  case rest =>
    obtain ⟨rfl, rfl⟩ := hcut
    clear KONE
    clear KTWO
    obtain ⟨cAB_0, cAB_1, cAB_2, cAB_3, cAB_4, cAB_5, cAB_6, cAB_7, cAB_8, cAB_9, cAB_10, cAB_11, _, _, _, _, _, _, _, _, _, _, _, _⟩ := blk12 KAB.out
    have zAB := Blk.lt KAB.out
    obtain ⟨cX_0, cX_1, cX_2, _, _, _⟩ := blk3 KX.out
    have zX := Blk.lt KX.out
    go_wp2_with fail
    refine (Hp.out _).mono ?_
    rintro e w9 ⟨rfl, b1⟩
    clear cAB_0 cAB_1 cAB_2 cAB_3 cAB_4 cAB_5 cAB_6 cAB_7 cAB_8 cAB_9 cAB_10 cAB_11 zAB
    clear cX_0 cX_1 cX_2 zX
    replace KM := Lib.hid (Blk.keep KM.out (b1))
    replace KV := Lib.hid (Blk.keep KV.out (b1))
    replace KA := Lib.hid (Blk.keep KA.out (b1))
    replace KB := Lib.hid (Blk.keep KB.out (b1))
    replace KX := Lib.hid (Blk.keep KX.out (b1))
    replace KAB := Lib.hid (Blk.keep KAB.out (b1))
    replace HB := Lib.hid (bthen HB.out (b1))
    clear b1
    obtain ⟨cB_0, cB_1, cB_2, cB_3, cB_4, cB_5, cB_6, cB_7, cB_8, cB_9, cB_10, cB_11, _, _, _, _, _, _, _, _, _, _, _, _⟩ := blk12 KB.out
    have zB := Blk.lt KB.out
    obtain ⟨cX_0, cX_1, cX_2, _, _, _⟩ := blk3 KX.out
    have zX := Blk.lt KX.out
    go_wp2_with fail
    refine (Hqq.out _).mono ?_
    rintro e w10 ⟨rfl, b1⟩
    clear cB_0 cB_1 cB_2 cB_3 cB_4 cB_5 cB_6 cB_7 cB_8 cB_9 cB_10 cB_11 zB
    clear cX_0 cX_1 cX_2 zX
    replace KM := Lib.hid (Blk.keep (KM.out.alloc _) (b1))
    replace KV := Lib.hid (Blk.keep (KV.out.alloc _) (b1))
    replace KA := Lib.hid (Blk.keep (KA.out.alloc _) (b1))
    replace KB := Lib.hid (Blk.keep (KB.out.alloc _) (b1))
    replace KX := Lib.hid (Blk.keep (KX.out.alloc _) (b1))
    replace KAB := Lib.hid (Blk.keep (KAB.out.alloc _) (b1))
    have KP := Lib.hid (Blk.keep (Blk.new w9 27 _) (b1))
    replace HB := Lib.hid (bthen (balloc HB.out _) (b1))
    clear b1
    obtain ⟨cA_0, cA_1, cA_2, cA_3, cA_4, cA_5, cA_6, cA_7, cA_8, cA_9, cA_10, cA_11, _, _, _, _, _, _, _, _, _, _, _, _⟩ := blk12 KA.out
    have zA := Blk.lt KA.out
    go_wp2_with fail
    refine (Hr.out _).mono ?_
    rintro e w11 ⟨rfl, b1⟩
    clear cA_0 cA_1 cA_2 cA_3 cA_4 cA_5 cA_6 cA_7 cA_8 cA_9 cA_10 cA_11 zA
    replace KM := Lib.hid (Blk.keep (KM.out.alloc _) (b1))
    replace KV := Lib.hid (Blk.keep (KV.out.alloc _) (b1))
    replace KA := Lib.hid (Blk.keep (KA.out.alloc _) (b1))
    replace KB := Lib.hid (Blk.keep (KB.out.alloc _) (b1))
    replace KX := Lib.hid (Blk.keep (KX.out.alloc _) (b1))
    replace KAB := Lib.hid (Blk.keep (KAB.out.alloc _) (b1))
    replace KP := Lib.hid (Blk.keep (KP.out.alloc _) (b1))
    have KQ := Lib.hid (Blk.keep (Blk.new w10 27 _) (b1))
    replace HB := Lib.hid (bthen (balloc HB.out _) (b1))
    clear b1
    go_upto_region 14 with fail
    refine fin (fun W => Blk W (w.heap.size + 1) 25 #[.int .i64 (m 0), .int .i64 (m 1), .int .i64 (m 2), .int .i64 (m 3), .int .i64 (m 4), .int .i64 (m 5), .int .i64 (m 6), .int .i64 (m 7), .int .i64 (m 8), .int .i64 (m 9), .int .i64 (m 10), .int .i64 (m 11)] ∧ Blk W (w.heap.size + 2) 27 #[.int .i64 (v 0), .int .i64 (v 1), .int .i64 (v 2)] ∧ Blk W (w9.heap.size) 27 #[.int .i64 (P 0), .int .i64 (P 1), .int .i64 (P 2)] ∧ Blk W (w11.heap.size) 27 #[.int .i64 (R 0), .int .i64 (R 1), .int .i64 (R 2)] ∧ Below w.heap.size w W) ⟨(KM.out.alloc _), (KV.out.alloc _), (KP.out.alloc _), (Blk.new w11 _ _), (balloc HB.out _)⟩ ?_
    clear HB KM KV KA KB KX KAB KP KQ
    rintro w12 ⟨kM, kV, kP, kR, hb⟩
    have KM := Lib.hid kM
    have KV := Lib.hid kV
    have KP := Lib.hid kP
    have KR := Lib.hid kR
    have HB := Lib.hid hb
    clear hb kM kV kP kR
    go_cut [132] from 33 to 132 (fun s wx => s = .bool false ∧ wx = w12)
    case first =>
      by_cases hee : ee = 0
      · have gee : (ee == 0) = true := by rw [hee]; rfl
        by_cases hei : ei = 0
        · have gei : (ei == 0) = true := by rw [hei]; rfl
          by_cases hej : ej = 0
          · have gej : (ej == 0) = true := by rw [hej]; rfl
            by_cases hek : ek = 0
            · have gek : (ek == 0) = true := by rw [hek]; rfl
              have hq := HQ2.out hee hei hej hek
              have q0 : R 0 = P 0 := hq 0 (by omega)
              have q1 : R 1 = P 1 := hq 1 (by omega)
              have q2 : R 2 = P 2 := hq 2 (by omega)
              clear hq hee hei hej hek
              obtain ⟨cP_0, cP_1, cP_2, _, _, _⟩ := blk3 KP.out
              obtain ⟨cR_0, cR_1, cR_2, _, _, _⟩ := blk3 KR.out
              go_wp2
              go_meet
              exact ⟨rfl, rfl⟩
            · have gek : (ek == 0) = false := by simpa using hek
              clear hee hei hej hek
              go_wp2
              go_meet
              exact ⟨rfl, rfl⟩
          · have gej : (ej == 0) = false := by simpa using hej
            clear hee hei hej
            go_wp2
            go_meet
            exact ⟨rfl, rfl⟩
        · have gei : (ei == 0) = false := by simpa using hei
          clear hee hei
          go_wp2
          go_meet
          exact ⟨rfl, rfl⟩
      · have gee : (ee == 0) = false := by simpa using hee
        clear hee
        go_wp2
        go_meet
        exact ⟨rfl, rfl⟩
    case rest =>
      obtain ⟨rfl, rfl⟩ := hcut
      clear KP
      clear KR
      clear Hma Hmb Hmc Hab Hbc Hone Htwo Hp Hqq Hr HQ1 HQ2
      rcases hok with ⟨om, ov⟩ | hok
      · clear heq heqM
        have heq := eqVec
        have heqM := eqMat
        have HO := Lib.hid (And.intro om ov)
        clear om ov
        go_wp2_with fail
        refine (rright12b HO.out.1 KM.out).mono ?_
        rintro e w13 ⟨rfl, rfl⟩
        obtain ⟨cV_0, cV_1, cV_2, _, _, _⟩ := blk3 KV.out
        have zV := Blk.lt KV.out
        go_wp2_with fail
        refine (rone3 HO.out.2 _).mono ?_
        rintro e w13 ⟨rfl, b1⟩
        clear cV_0 cV_1 cV_2 zV
        replace KM := Lib.hid (Blk.keep KM.out (b1))
        replace KV := Lib.hid (Blk.keep KV.out (b1))
        replace HB := Lib.hid (bthen HB.out (b1))
        clear b1
        have HAh := Lib.hid (hah HO.out.1)
        have HBe := Lib.hid (hbe HO.out.1)
        have HYy := Lib.hid (hyy HO.out.2)
        clear hah hbe hyy
        go_upto_region 20 with fail
        go_cut [27, 28] from 33 to 150 (fun s r wx => ∃ G, s = .pointer (some ⟨G, 0, none⟩) ∧ r = .int .i64 0 ∧ Blk wx G 25 #[.int .i64 (m 0), .int .i64 (m 1), .int .i64 (m 2), .int .i64 (m 3), .int .i64 (m 4), .int .i64 (m 5), .int .i64 (m 6), .int .i64 (m 7), .int .i64 (m 8), .int .i64 (m 9), .int .i64 (m 10), .int .i64 (m 11)] ∧ Below w13.heap.size w13 wx)
        case first =>
          refine reg20 (fun _ _ d _ _ h => by cases d <;> exact h) KM.out HAh.out (fun G1 gsG1 W' kx hb1 => ?_)
          go_wp2_with fail
          go_meet
          exact ⟨_, rfl, rfl, kx, hb1⟩
        case rest =>
          obtain ⟨G1, rfl, rfl, kx, hb1⟩ := hcut
          refine fin (fun W => Blk W (w.heap.size + 1) 25 #[.int .i64 (m 0), .int .i64 (m 1), .int .i64 (m 2), .int .i64 (m 3), .int .i64 (m 4), .int .i64 (m 5), .int .i64 (m 6), .int .i64 (m 7), .int .i64 (m 8), .int .i64 (m 9), .int .i64 (m 10), .int .i64 (m 11)] ∧ Blk W (w.heap.size + 2) 27 #[.int .i64 (v 0), .int .i64 (v 1), .int .i64 (v 2)] ∧ Blk W G1 25 #[.int .i64 (m 0), .int .i64 (m 1), .int .i64 (m 2), .int .i64 (m 3), .int .i64 (m 4), .int .i64 (m 5), .int .i64 (m 6), .int .i64 (m 7), .int .i64 (m 8), .int .i64 (m 9), .int .i64 (m 10), .int .i64 (m 11)] ∧ Below w.heap.size w W) ⟨Blk.keep KM.out hb1, Blk.keep KV.out hb1, kx, bthen HB.out hb1⟩ ?_
          clear kx hb1 HB KM KV
          rintro w14 ⟨kM, kV, kG1, hb⟩
          have KM := Lib.hid kM
          have KV := Lib.hid kV
          have KG1 := Lib.hid kG1
          have HB := Lib.hid hb
          clear hb kM kV kG1
          go_upto_region 21 with fail
          go_cut [29, 30] from 33 to 157 (fun s r wx => ∃ G, s = .pointer (some ⟨G, 0, none⟩) ∧ r = .int .i64 0 ∧ Blk wx G 25 #[.int .i64 (m 0), .int .i64 (m 1), .int .i64 (m 2), .int .i64 (m 3), .int .i64 (m 4), .int .i64 (m 5), .int .i64 (m 6), .int .i64 (m 7), .int .i64 (m 8), .int .i64 (m 9), .int .i64 (m 10), .int .i64 (m 11)] ∧ Below w14.heap.size w14 wx)
          case first =>
            refine reg21 (fun _ _ d _ _ h => by cases d <;> exact h) KM.out HBe.out (fun G2 gsG2 W' kx hb1 => ?_)
            go_wp2_with fail
            go_meet
            exact ⟨_, rfl, rfl, kx, hb1⟩
          case rest =>
            obtain ⟨G2, rfl, rfl, kx, hb1⟩ := hcut
            refine fin (fun W => Blk W (w.heap.size + 1) 25 #[.int .i64 (m 0), .int .i64 (m 1), .int .i64 (m 2), .int .i64 (m 3), .int .i64 (m 4), .int .i64 (m 5), .int .i64 (m 6), .int .i64 (m 7), .int .i64 (m 8), .int .i64 (m 9), .int .i64 (m 10), .int .i64 (m 11)] ∧ Blk W (w.heap.size + 2) 27 #[.int .i64 (v 0), .int .i64 (v 1), .int .i64 (v 2)] ∧ Blk W (G1) 25 #[.int .i64 (m 0), .int .i64 (m 1), .int .i64 (m 2), .int .i64 (m 3), .int .i64 (m 4), .int .i64 (m 5), .int .i64 (m 6), .int .i64 (m 7), .int .i64 (m 8), .int .i64 (m 9), .int .i64 (m 10), .int .i64 (m 11)] ∧ Blk W G2 25 #[.int .i64 (m 0), .int .i64 (m 1), .int .i64 (m 2), .int .i64 (m 3), .int .i64 (m 4), .int .i64 (m 5), .int .i64 (m 6), .int .i64 (m 7), .int .i64 (m 8), .int .i64 (m 9), .int .i64 (m 10), .int .i64 (m 11)] ∧ Below w.heap.size w W) ⟨Blk.keep KM.out hb1, Blk.keep KV.out hb1, Blk.keep KG1.out hb1, kx, bthen HB.out hb1⟩ ?_
            clear kx hb1 HB KM KV KG1
            rintro w15 ⟨kM, kV, kG1, kG2, hb⟩
            have KM := Lib.hid kM
            have KV := Lib.hid kV
            have KG1 := Lib.hid kG1
            have KG2 := Lib.hid kG2
            have HB := Lib.hid hb
            clear hb kM kV kG1 kG2
            go_upto_region 22 with fail
            go_cut [31, 32] from 33 to 163 (fun s r wx => ∃ G, s = .pointer (some ⟨G, 0, none⟩) ∧ r = .int .i64 0 ∧ Blk wx G 27 #[.int .i64 (v 0), .int .i64 (v 1), .int .i64 (v 2)] ∧ Below w15.heap.size w15 wx)
            case first =>
              refine reg22 (fun _ _ d _ _ h => by cases d <;> exact h) KV.out HYy.out (fun G3 W' kx hb1 => ?_)
              go_wp2_with fail
              go_meet
              exact ⟨_, rfl, rfl, kx, hb1⟩
            case rest =>
              obtain ⟨G3, rfl, rfl, kx, hb1⟩ := hcut
              refine fin (fun W => Blk W (w.heap.size + 1) 25 #[.int .i64 (m 0), .int .i64 (m 1), .int .i64 (m 2), .int .i64 (m 3), .int .i64 (m 4), .int .i64 (m 5), .int .i64 (m 6), .int .i64 (m 7), .int .i64 (m 8), .int .i64 (m 9), .int .i64 (m 10), .int .i64 (m 11)] ∧ Blk W (w.heap.size + 2) 27 #[.int .i64 (v 0), .int .i64 (v 1), .int .i64 (v 2)] ∧ Blk W (G1) 25 #[.int .i64 (m 0), .int .i64 (m 1), .int .i64 (m 2), .int .i64 (m 3), .int .i64 (m 4), .int .i64 (m 5), .int .i64 (m 6), .int .i64 (m 7), .int .i64 (m 8), .int .i64 (m 9), .int .i64 (m 10), .int .i64 (m 11)] ∧ Blk W (G2) 25 #[.int .i64 (m 0), .int .i64 (m 1), .int .i64 (m 2), .int .i64 (m 3), .int .i64 (m 4), .int .i64 (m 5), .int .i64 (m 6), .int .i64 (m 7), .int .i64 (m 8), .int .i64 (m 9), .int .i64 (m 10), .int .i64 (m 11)] ∧ Blk W G3 27 #[.int .i64 (v 0), .int .i64 (v 1), .int .i64 (v 2)] ∧ Below w.heap.size w W) ⟨Blk.keep KM.out hb1, Blk.keep KV.out hb1, Blk.keep KG1.out hb1, Blk.keep KG2.out hb1, kx, bthen HB.out hb1⟩ ?_
              clear kx hb1 HB KM KV KG1 KG2
              rintro w16 ⟨kM, kV, kG1, kG2, kG3, hb⟩
              have KM := Lib.hid kM
              have KV := Lib.hid kV
              have KG1 := Lib.hid kG1
              have KG2 := Lib.hid kG2
              have KG3 := Lib.hid kG3
              have HB := Lib.hid hb
              clear hb kM kV kG1 kG2 kG3
              go_wp2_with fail
              refine (aalive_any _).mono ?_
              rintro e w17 ⟨rfl, b1⟩
              replace KM := Lib.hid (Blk.keep KM.out (b1))
              replace KV := Lib.hid (Blk.keep KV.out (b1))
              replace KG1 := Lib.hid (Blk.keep KG1.out (b1))
              replace KG2 := Lib.hid (Blk.keep KG2.out (b1))
              replace KG3 := Lib.hid (Blk.keep KG3.out (b1))
              replace HB := Lib.hid (bthen HB.out (b1))
              clear b1
              obtain ⟨cG1_0, cG1_1, cG1_2, cG1_3, cG1_4, cG1_5, cG1_6, cG1_7, cG1_8, cG1_9, cG1_10, cG1_11, _, _, _, _, _, _, _, _, _, _, _, _⟩ := blk12 KG1.out
              have zG1 := Blk.lt KG1.out
              obtain ⟨cM_0, cM_1, cM_2, cM_3, cM_4, cM_5, cM_6, cM_7, cM_8, cM_9, cM_10, cM_11, _, _, _, _, _, _, _, _, _, _, _, _⟩ := blk12 KM.out
              have zM := Blk.lt KM.out
              obtain ⟨cG2_0, cG2_1, cG2_2, cG2_3, cG2_4, cG2_5, cG2_6, cG2_7, cG2_8, cG2_9, cG2_10, cG2_11, _, _, _, _, _, _, _, _, _, _, _, _⟩ := blk12 KG2.out
              have zG2 := Blk.lt KG2.out
              obtain ⟨cV_0, cV_1, cV_2, _, _, _⟩ := blk3 KV.out
              have zV := Blk.lt KV.out
              obtain ⟨cG3_0, cG3_1, cG3_2, _, _, _⟩ := blk3 KG3.out
              have zG3 := Blk.lt KG3.out
              go_wp2
              go_ret
              exact ⟨rfl, HB.out⟩
      · clear hah hbe hyy
        rcases hok with ⟨om, ov⟩ | ⟨om, ov⟩ | ⟨om, ov⟩
        all_goals
          have HO := Lib.hid (And.intro om ov)
          clear om ov
          go_wp2_with fail
          refine (rright12b HO.out.1 KM.out).mono ?_
          rintro e w13 ⟨rfl, rfl⟩
          obtain ⟨cV_0, cV_1, cV_2, _, _, _⟩ := blk3 KV.out
          have zV := Blk.lt KV.out
          go_wp2_with fail
          refine (rone3 HO.out.2 _).mono ?_
          rintro e w13 ⟨rfl, b1⟩
          clear cV_0 cV_1 cV_2 zV
          replace KM := Lib.hid (Blk.keep KM.out (b1))
          replace KV := Lib.hid (Blk.keep KV.out (b1))
          replace HB := Lib.hid (bthen HB.out (b1))
          clear b1
          go_wp2_with fail
          refine (aalive_any _).mono ?_
          rintro e w14 ⟨rfl, b1⟩
          replace KM := Lib.hid (Blk.keep KM.out (b1))
          replace KV := Lib.hid (Blk.keep KV.out (b1))
          replace HB := Lib.hid (bthen HB.out (b1))
          clear b1
          go_wp2
          go_ret
          exact ⟨rfl, HB.out⟩

end Go.Proofs.Ytjdoneacbnalaaa.affineNumbers
