/-
  ShapeInside answers true for every two boxes, every matrix and every two planes: what is in a box is, behind a matrix, in the box that it carries; its distance is in the box's span; what joins boxes has what the first one has. No conditions.
-/
import Derived.Test.YthdgldoailjhhaaRows
import Derived.Test.YthdgldoailjhhaaShpO
import Derived.WalkKit
import Derived.ProofKit
import Derived.OpenShut
import Derived.ShutString
import Derived.ChangeOld
import Derived.Below
import Derived.Deep.Cut
import Derived.Deep.CutRange
namespace Go.Proofs.Ythdgldoailjhhaa.shapeInside
open Go.ChangeShapes Go.WideShapes Go.ChangeAt Go.RowKit
set_option linter.unusedVariables false

theorem own : ownKnob Try.prog.godebug = none := by kernel_rfl
theorem laidOut : laidOutB Try.prog = true := by kernel_rfl

def upT (T : Nat → Int) (j : Nat) : Int := T (6 + j)
def upQ (Q : Nat → Int) (j : Nat) : Int := Q (4 + j)

set_option maxHeartbeats 8000000 in
set_option maxRecDepth 100000 in
theorem walk_some (T M Q C X J : Nat → Int) (i ic ij : Bool) (ce ae lo hi ge d he je : Int) (w : World)
    (h1 : ∀ w', Calls Try.prog 16 #[.agg #[.int .i64 (T 0), .int .i64 (T 1), .int .i64 (T 2), .int .i64 (T 3), .int .i64 (T 4), .int .i64 (T 5)], .agg #[.int .i64 (Q 0), .int .i64 (Q 1), .int .i64 (Q 2)]] w' fun e w'' => e = .returned (.bool i) ∧ Below w'.heap.size w' w'')
    (h2 : ∀ w', Calls Try.prog 12 #[.agg #[.int .i64 (M 0), .int .i64 (M 1), .int .i64 (M 2), .int .i64 (M 3), .int .i64 (M 4), .int .i64 (M 5), .int .i64 (M 6), .int .i64 (M 7), .int .i64 (M 8), .int .i64 (M 9), .int .i64 (M 10), .int .i64 (M 11)], .agg #[.int .i64 (T 0), .int .i64 (T 1), .int .i64 (T 2), .int .i64 (T 3), .int .i64 (T 4), .int .i64 (T 5)]] w' fun e w'' => e = .returned (.tuple #[.agg #[.int .i64 (C 0), .int .i64 (C 1), .int .i64 (C 2), .int .i64 (C 3), .int .i64 (C 4), .int .i64 (C 5)], .int .i64 ce]) ∧ Below w'.heap.size w' w'')
    (h3 : ∀ w', Calls Try.prog 20 #[.agg #[.int .i64 (M 0), .int .i64 (M 1), .int .i64 (M 2), .int .i64 (M 3), .int .i64 (M 4), .int .i64 (M 5), .int .i64 (M 6), .int .i64 (M 7), .int .i64 (M 8), .int .i64 (M 9), .int .i64 (M 10), .int .i64 (M 11)], .agg #[.int .i64 (Q 0), .int .i64 (Q 1), .int .i64 (Q 2)]] w' fun e w'' => e = .returned (.tuple #[.agg #[.int .i64 (X 0), .int .i64 (X 1), .int .i64 (X 2)], .int .i64 ae]) ∧ Below w'.heap.size w' w'')
    (h4 : ∀ w', Calls Try.prog 16 #[.agg #[.int .i64 (C 0), .int .i64 (C 1), .int .i64 (C 2), .int .i64 (C 3), .int .i64 (C 4), .int .i64 (C 5)], .agg #[.int .i64 (X 0), .int .i64 (X 1), .int .i64 (X 2)]] w' fun e w'' => e = .returned (.bool ic) ∧ Below w'.heap.size w' w'')
    (h5 : ∀ w', Calls Try.prog 14 #[.agg #[.int .i64 (Q 4), .int .i64 (Q 5), .int .i64 (Q 6), .int .i64 (Q 7)], .agg #[.int .i64 (T 0), .int .i64 (T 1), .int .i64 (T 2), .int .i64 (T 3), .int .i64 (T 4), .int .i64 (T 5)]] w' fun e w'' => e = .returned (.tuple #[.int .i64 lo, .int .i64 hi, .int .i64 ge]) ∧ Below w'.heap.size w' w'')
    (h6 : ∀ w', Calls Try.prog 18 #[.agg #[.int .i64 (Q 4), .int .i64 (Q 5), .int .i64 (Q 6), .int .i64 (Q 7)], .agg #[.int .i64 (Q 0), .int .i64 (Q 1), .int .i64 (Q 2)]] w' fun e w'' => e = .returned (.tuple #[.int .i64 d, .int .i64 he]) ∧ Below w'.heap.size w' w'')
    (h7 : ∀ w' s, BRow w' s 2 [T, upT T] → Calls Try.prog 7 #[.slice s 2 2] w' fun e w'' => e = .returned (.tuple #[.agg #[.int .i64 (J 0), .int .i64 (J 1), .int .i64 (J 2), .int .i64 (J 3), .int .i64 (J 4), .int .i64 (J 5)], .int .i64 je]) ∧ Below w'.heap.size w' w'')
    (h8 : ∀ w', Calls Try.prog 16 #[.agg #[.int .i64 (J 0), .int .i64 (J 1), .int .i64 (J 2), .int .i64 (J 3), .int .i64 (J 4), .int .i64 (J 5)], .agg #[.int .i64 (Q 0), .int .i64 (Q 1), .int .i64 (Q 2)]] w' fun e w'' => e = .returned (.bool ij) ∧ Below w'.heap.size w' w'')
    (q1 : i = true → ce = 0 → ae = 0 ∧ ic = true)
    (q2 : i = true → ge = 0 → he = 0 → lo ≤ d ∧ d ≤ hi)
    (q3 : i = true → je = 0 → ij = true) :
    Calls Try.prog 4 #[.agg #[.int .i64 (T 0), .int .i64 (T 1), .int .i64 (T 2), .int .i64 (T 3), .int .i64 (T 4), .int .i64 (T 5), .int .i64 (T 6), .int .i64 (T 7), .int .i64 (T 8), .int .i64 (T 9), .int .i64 (T 10), .int .i64 (T 11)], .agg #[.int .i64 (M 0), .int .i64 (M 1), .int .i64 (M 2), .int .i64 (M 3), .int .i64 (M 4), .int .i64 (M 5), .int .i64 (M 6), .int .i64 (M 7), .int .i64 (M 8), .int .i64 (M 9), .int .i64 (M 10), .int .i64 (M 11)], .agg #[.int .i64 (Q 0), .int .i64 (Q 1), .int .i64 (Q 2), .int .i64 (Q 3), .int .i64 (Q 4), .int .i64 (Q 5), .int .i64 (Q 6), .int .i64 (Q 7)]] w fun e w' => e = .returned (.bool true) ∧ Below w.heap.size w w' := by
  have Hh1 := Lib.hid h1
  have Hh2 := Lib.hid h2
  have Hh3 := Lib.hid h3
  have Hh4 := Lib.hid h4
  have Hh5 := Lib.hid h5
  have Hh6 := Lib.hid h6
  have Hh7 := Lib.hid h7
  have Hh8 := Lib.hid h8
  have Hq1 := Lib.hid q1
  have Hq2 := Lib.hid q2
  have Hq3 := Lib.hid q3
  clear h1 h2 h3 h4 h5 h6 h7 h8 q1 q2 q3
  go_enter Try.func4, Try.ntmps4
  go_wp2_with fail
  refine (Hh1.out _).mono ?_
  rintro e w1 ⟨rfl, b1⟩
  have KT := Lib.hid (blkAt (Blk.keep ((((((Blk.new w 48 _).alloc _).alloc _).alloc _).alloc _).alloc _) b1) (g' := w.heap.size) (by simp))
  have KM := Lib.hid (blkAt (Blk.keep (((((Blk.new (w.alloc _) 25 _).alloc _).alloc _).alloc _).alloc _) b1) (g' := w.heap.size + 1) (by simp))
  have KB := Lib.hid (blkAt (Blk.keep (((Blk.new (((w.alloc _).alloc _).alloc _) 33 _).alloc _).alloc _) b1) (g' := w.heap.size + 3) (by simp))
  have KV := Lib.hid (blkAt (Blk.keep ((Blk.new ((((w.alloc _).alloc _).alloc _).alloc _) 27 _).alloc _) b1) (g' := w.heap.size + 4) (by simp))
  have KP := Lib.hid (blkAt (Blk.keep (Blk.new (((((w.alloc _).alloc _).alloc _).alloc _).alloc _) 29 _) b1) (g' := w.heap.size + 5) (by simp))
  have HB := Lib.hid (bthen (balloc (balloc (balloc (balloc (balloc (alloc_below _ _) _) _) _) _) _) b1)
  clear b1
  cases i
  · go_wp2_with fail
    refine (shalive_any _).mono ?_
    rintro e w2 ⟨rfl, b2⟩
    replace HB := Lib.hid (bthen HB.out b2)
    clear b2
    go_wp2
    go_ret
    exact ⟨rfl, HB.out⟩
  · skip
    obtain ⟨cM_0, cM_1, cM_2, cM_3, cM_4, cM_5, cM_6, cM_7, cM_8, cM_9, cM_10, cM_11, _, _, _, _, _, _, _, _, _, _, _, _⟩ := blk12 KM.out
    have zM := KM.out.lt
    obtain ⟨cB_0, cB_1, cB_2, cB_3, cB_4, cB_5, _⟩ := blk6 KB.out
    have zB := KB.out.lt
    go_wp2_with fail
    refine (Hh2.out _).mono ?_
    rintro e w2 ⟨rfl, b1⟩
    clear cM_0 cM_1 cM_2 cM_3 cM_4 cM_5 cM_6 cM_7 cM_8 cM_9 cM_10 cM_11 zM
    clear cB_0 cB_1 cB_2 cB_3 cB_4 cB_5 zB
    replace KT := Lib.hid (Blk.keep KT.out b1)
    replace KM := Lib.hid (Blk.keep KM.out b1)
    replace KB := Lib.hid (Blk.keep KB.out b1)
    replace KV := Lib.hid (Blk.keep KV.out b1)
    replace KP := Lib.hid (Blk.keep KP.out b1)
    replace HB := Lib.hid (bthen HB.out b1)
    clear b1
    obtain ⟨cM_0, cM_1, cM_2, cM_3, cM_4, cM_5, cM_6, cM_7, cM_8, cM_9, cM_10, cM_11, _, _, _, _, _, _, _, _, _, _, _, _⟩ := blk12 KM.out
    have zM := KM.out.lt
    obtain ⟨cV_0, cV_1, cV_2, _, _, _⟩ := blk3 KV.out
    have zV := KV.out.lt
    go_wp2_with fail
    refine (Hh3.out _).mono ?_
    rintro e w3 ⟨rfl, b1⟩
    clear cM_0 cM_1 cM_2 cM_3 cM_4 cM_5 cM_6 cM_7 cM_8 cM_9 cM_10 cM_11 zM
    clear cV_0 cV_1 cV_2 zV
    replace KT := Lib.hid (Blk.keep (KT.out.alloc _) b1)
    replace KM := Lib.hid (Blk.keep (KM.out.alloc _) b1)
    replace KB := Lib.hid (Blk.keep (KB.out.alloc _) b1)
    replace KV := Lib.hid (Blk.keep (KV.out.alloc _) b1)
    replace KP := Lib.hid (Blk.keep (KP.out.alloc _) b1)
    have KC := Lib.hid (Blk.keep (Blk.new w2 33 _) b1)
    replace HB := Lib.hid (bthen (balloc HB.out _) b1)
    clear b1
    go_upto_region 8 with fail
    refine fin (fun W => Blk W (w.heap.size) 48 #[.int .i64 (T 0), .int .i64 (T 1), .int .i64 (T 2), .int .i64 (T 3), .int .i64 (T 4), .int .i64 (T 5), .int .i64 (T 6), .int .i64 (T 7), .int .i64 (T 8), .int .i64 (T 9), .int .i64 (T 10), .int .i64 (T 11)] ∧ Blk W (w.heap.size + 3) 33 #[.int .i64 (T 0), .int .i64 (T 1), .int .i64 (T 2), .int .i64 (T 3), .int .i64 (T 4), .int .i64 (T 5)] ∧ Blk W (w.heap.size + 4) 27 #[.int .i64 (Q 0), .int .i64 (Q 1), .int .i64 (Q 2)] ∧ Blk W (w.heap.size + 5) 29 #[.int .i64 (Q 4), .int .i64 (Q 5), .int .i64 (Q 6), .int .i64 (Q 7)] ∧ Blk W (w2.heap.size) 33 #[.int .i64 (C 0), .int .i64 (C 1), .int .i64 (C 2), .int .i64 (C 3), .int .i64 (C 4), .int .i64 (C 5)] ∧ Blk W (w3.heap.size) 27 #[.int .i64 (X 0), .int .i64 (X 1), .int .i64 (X 2)] ∧ Below w.heap.size w W) ⟨KT.out.alloc _, KB.out.alloc _, KV.out.alloc _, KP.out.alloc _, KC.out.alloc _, Blk.new _ _ _, balloc HB.out _⟩ ?_
    clear HB KT KB KV KP KC
    rintro w4 ⟨kT, kB, kV, kP, kC, kX, hb⟩
    have KT := Lib.hid kT
    have KB := Lib.hid kB
    have KV := Lib.hid kV
    have KP := Lib.hid kP
    have KC := Lib.hid kC
    have KX := Lib.hid kX
    have HB := Lib.hid hb
    clear hb kT kB kV kP kC kX
    go_cut [56] from 21 to 56 (fun s wx => s = .bool false ∧ Below w4.heap.size w4 wx)
    case first =>
      by_cases hce : ce = 0
      · have gce : (ce == 0) = true := by rw [hce]; rfl
        have hq := Hq1.out (by trivial) hce
        have gae : (ae != 0) = false := by rw [hq.1]; rfl
        have hic : ic = true := hq.2
        rw [hic] at Hh4
        clear hq hic hce
        obtain ⟨cC_0, cC_1, cC_2, cC_3, cC_4, cC_5, _⟩ := blk6 KC.out
        have zC := KC.out.lt
        obtain ⟨cX_0, cX_1, cX_2, _, _, _⟩ := blk3 KX.out
        have zX := KX.out.lt
        go_wp2_with fail
        refine (Hh4.out _).mono ?_
        rintro e w5 ⟨rfl, b1⟩
        have B1 := Lib.hid b1
        clear b1
        go_wp2_with fail
        go_meet
        exact ⟨rfl, B1.out⟩
      · have gce : (ce == 0) = false := by simpa using hce
        clear hce
        go_wp2_with fail
        go_meet
        exact ⟨rfl, Below.refl _ _⟩
    case rest =>
      obtain ⟨rfl, b1⟩ := hcut
      clear KC KX
      replace KT := Lib.hid (Blk.keep KT.out b1)
      replace KB := Lib.hid (Blk.keep KB.out b1)
      replace KV := Lib.hid (Blk.keep KV.out b1)
      replace KP := Lib.hid (Blk.keep KP.out b1)
      replace HB := Lib.hid (bthen HB.out b1)
      clear b1
      skip
      obtain ⟨cP_0, cP_1, cP_2, cP_3⟩ := blk4 KP.out
      have zP := KP.out.lt
      obtain ⟨cB_0, cB_1, cB_2, cB_3, cB_4, cB_5, _⟩ := blk6 KB.out
      have zB := KB.out.lt
      go_wp2_with fail
      refine (Hh5.out _).mono ?_
      rintro e w6 ⟨rfl, b1⟩
      clear cP_0 cP_1 cP_2 cP_3 zP
      clear cB_0 cB_1 cB_2 cB_3 cB_4 cB_5 zB
      replace KT := Lib.hid (Blk.keep KT.out b1)
      replace KB := Lib.hid (Blk.keep KB.out b1)
      replace KV := Lib.hid (Blk.keep KV.out b1)
      replace KP := Lib.hid (Blk.keep KP.out b1)
      replace HB := Lib.hid (bthen HB.out b1)
      clear b1
      obtain ⟨cP_0, cP_1, cP_2, cP_3⟩ := blk4 KP.out
      have zP := KP.out.lt
      obtain ⟨cV_0, cV_1, cV_2, _, _, _⟩ := blk3 KV.out
      have zV := KV.out.lt
      go_wp2_with fail
      refine (Hh6.out _).mono ?_
      rintro e w7 ⟨rfl, b1⟩
      clear cP_0 cP_1 cP_2 cP_3 zP
      clear cV_0 cV_1 cV_2 zV
      replace KT := Lib.hid (Blk.keep KT.out b1)
      replace KB := Lib.hid (Blk.keep KB.out b1)
      replace KV := Lib.hid (Blk.keep KV.out b1)
      replace KP := Lib.hid (Blk.keep KP.out b1)
      replace HB := Lib.hid (bthen HB.out b1)
      clear b1
      clear KP
      go_upto_region 12 with fail
      go_cut [85] from 21 to 85 (fun s wx => s = .bool false ∧ wx = w7)
      case first =>
        by_cases hge : ge = 0
        · have gge : (ge == 0) = true := by rw [hge]; rfl
          by_cases hhe : he = 0
          · have ghe : (he == 0) = true := by rw [hhe]; rfl
            have hq := Hq2.out (by trivial) hge hhe
            have g1 : ¬ d < lo := by omega
            have g2 : ¬ hi < d := by omega
            clear hq hge hhe
            go_wp2_with fail
            go_meet
            exact ⟨rfl, rfl⟩
          · have ghe : (he == 0) = false := by simpa using hhe
            clear hhe hge
            go_wp2_with fail
            go_meet
            exact ⟨rfl, rfl⟩
        · have gge : (ge == 0) = false := by simpa using hge
          clear hge
          go_wp2_with fail
          go_meet
          exact ⟨rfl, rfl⟩
      case rest =>
        obtain ⟨rfl, rfl⟩ := hcut
        obtain ⟨cB_0, cB_1, cB_2, cB_3, cB_4, cB_5, _⟩ := blk6 KB.out
        have zB := KB.out.lt
        obtain ⟨cT_0, cT_1, cT_2, cT_3, cT_4, cT_5, cT_6, cT_7, cT_8, cT_9, cT_10, cT_11, _, _, _, _, _, _, _, _, _, _, _, _⟩ := blk12 KT.out
        have zT := KT.out.lt
        go_wp2_with fail
        refine (Hh7.out _ _ (brow2 (B := T) (C := upT T) (Blk.new _ _ _))).mono ?_
        rintro e w8 ⟨rfl, b1⟩
        clear cB_0 cB_1 cB_2 cB_3 cB_4 cB_5 zB
        clear cT_0 cT_1 cT_2 cT_3 cT_4 cT_5 cT_6 cT_7 cT_8 cT_9 cT_10 cT_11 zT
        clear KB KT
        replace KV := Lib.hid (Blk.keep (KV.out.alloc _) b1)
        replace HB := Lib.hid (bthen (balloc HB.out _) b1)
        clear b1
        go_wp2_with fail
        refine (shalive_any _).mono ?_
        rintro e w9 ⟨rfl, b1⟩
        replace KV := Lib.hid (Blk.keep (KV.out.alloc _) b1)
        have KJ := Lib.hid (Blk.keep (Blk.new w8 33 _) b1)
        replace HB := Lib.hid (bthen (balloc HB.out _) b1)
        clear b1
        by_cases hje : je = 0
        · have gje : (je != 0) = false := by rw [hje]; rfl
          have hij : ij = true := Hq3.out (by trivial) hje
          rw [hij] at Hh8
          clear hij hje
          obtain ⟨cJ_0, cJ_1, cJ_2, cJ_3, cJ_4, cJ_5, _⟩ := blk6 KJ.out
          have zJ := KJ.out.lt
          obtain ⟨cV_0, cV_1, cV_2, _, _, _⟩ := blk3 KV.out
          have zV := KV.out.lt
          go_wp2_with fail
          refine (Hh8.out _).mono ?_
          rintro e w10 ⟨rfl, b1⟩
          replace HB := Lib.hid (bthen HB.out b1)
          clear b1
          go_wp2
          go_ret
          exact ⟨rfl, HB.out⟩
        · have gje : (je != 0) = true := by simpa using hje
          clear hje
          go_wp2
          go_ret
          exact ⟨rfl, HB.out⟩

theorem walk (T M Q : Nat → Int) (w : World) :
    Calls Try.prog 4 #[.agg #[.int .i64 (T 0), .int .i64 (T 1), .int .i64 (T 2), .int .i64 (T 3), .int .i64 (T 4), .int .i64 (T 5), .int .i64 (T 6), .int .i64 (T 7), .int .i64 (T 8), .int .i64 (T 9), .int .i64 (T 10), .int .i64 (T 11)], .agg #[.int .i64 (M 0), .int .i64 (M 1), .int .i64 (M 2), .int .i64 (M 3), .int .i64 (M 4), .int .i64 (M 5), .int .i64 (M 6), .int .i64 (M 7), .int .i64 (M 8), .int .i64 (M 9), .int .i64 (M 10), .int .i64 (M 11)], .agg #[.int .i64 (Q 0), .int .i64 (Q 1), .int .i64 (Q 2), .int .i64 (Q 3), .int .i64 (Q 4), .int .i64 (Q 5), .int .i64 (Q 6), .int .i64 (Q 7)]] w fun e w' => e = .returned (.bool true) ∧ Below w.heap.size w w' :=
  walk_some T M Q (carV M T) (appV M Q) (joinV [T, upT T]) (inBox T Q) (inBox (carV M T) (appV M Q)) (inBox (joinV [T, upT T]) Q) (carE M T) (appE M Q) (spnLo (upQ Q) T) (spnHi (upQ Q) T) (spnE (upQ Q) T) (disV (upQ Q) Q) (disE (upQ Q) Q) (joinE [T, upT T]) w
    (fun w' => shin_any T Q w') (fun w' => shcarry_any M T w') (fun w' => apply_any M Q w') (fun w' => shin_any (carV M T) (appV M Q) w') (fun w' => shspan_any (upQ Q) T w') (fun w' => shdist_any (upQ Q) Q w') (fun w' s hr => shjoin_any s 2 2 [T, upT T] w' (by omega) (by omega) hr) (fun w' => shin_any (joinV [T, upT T]) Q w')
    (fun h1 h2 => carry_mid h1 h2) (fun h1 h2 h3 => span_mid h1 h2 h3) (fun h1 h2 => join_mid h1 h2)

set_option maxRecDepth 100000 in
theorem lifted (os : Os) (started : os.Started) (H : Type) (enc : TypeId × Value → H) :
    ReturnsInHanded {} Try.checked os 4 .any (Rows.shapeInsideSpec.pre6 enc Try.prog Try.f4 Rows.shapeInsideRow.domain false) (Rows.shapeInsideSpec.post enc Try.prog Try.f4 false true false false) := by
  refine returnsInHanded_of_change (C := Try.checked) own started (by kernel_rfl) Try.func4
    (ChangeSpec.witness6 (enc := enc) (C := Try.checked) false ⟨#[], #[.agg #[.int .i64 0, .int .i64 0, .int .i64 0, .int .i64 0, .int .i64 0, .int .i64 0, .int .i64 0, .int .i64 0, .int .i64 0, .int .i64 0, .int .i64 0, .int .i64 0], .agg #[.int .i64 0, .int .i64 0, .int .i64 0, .int .i64 0, .int .i64 0, .int .i64 0, .int .i64 0, .int .i64 0, .int .i64 0, .int .i64 0, .int .i64 0, .int .i64 0], .agg #[.int .i64 0, .int .i64 0, .int .i64 0, .int .i64 0, .int .i64 0, .int .i64 0, .int .i64 0, .int .i64 0]], []⟩ 8 (by kernel_rfl) (by kernel_rfl) (by kernel_rfl) (by kernel_rfl)) ?_
  intro W base args ds gs before hval0 hW hcnd _
  have hval : ∀ (j : Nat) t v, Try.f4.params[j]? = some t → args[j]? = some v → Value.okWide Try.prog W .any base t v := hval0
  have hW' := hW
  obtain ⟨p, q, hA0, hV, rfl, hfz, hnd⟩ := hW
  have hA : DataW.TrodAll enc Try.prog W 0 (fun _ => true) true Try.f4.params.toList args.toList ds p := hA0
  rw [Try.params4] at hA hval
  obtain ⟨v0, vs0, d0, ds0, p0, q0, hargs, rfl, rfl, h0, r0⟩ := trodAll_cons hA
  obtain ⟨v1, vs1, d1, ds1, p1, q1, rfl, rfl, rfl, h1, r1⟩ := trodAll_cons r0
  obtain ⟨v2, vs2, d2, ds2, p2, q2, rfl, rfl, rfl, h2, r2⟩ := trodAll_cons r1
  obtain ⟨rfl, rfl, rfl⟩ := trodAll_nil r2
  obtain rfl : args = #[v0, v1, v2] := by cases args; simp_all
  obtain ⟨rfl, rfl⟩ := trodVars_none hV
  have k0 := h0
  have lt0 : ∀ x ∈ p0, x.block < W.heap.size := by obtain ⟨m, hm⟩ := k0; exact DataW.trod_lt m _ _ _ hm
  obtain ⟨T, rfl⟩ := open_boxes2 (hval 0 48 v0 rfl rfl) h0
  have k1 := h1
  have lt1 : ∀ x ∈ p1, x.block < W.heap.size := by obtain ⟨m, hm⟩ := k1; exact DataW.trod_lt m _ _ _ hm
  obtain ⟨M, rfl⟩ := open_mat (hval 1 25 v1 rfl rfl) h1
  have k2 := h2
  have lt2 : ∀ x ∈ p2, x.block < W.heap.size := by obtain ⟨m, hm⟩ := k2; exact DataW.trod_lt m _ _ _ hm
  obtain ⟨Q, rfl⟩ := open_planes2 (hval 2 49 v2 rfl rfl) h2
  clear hA0 hval0
  refine (walk T M Q W).mono fun e W' ⟨he, bel⟩ => ?_
  subst he
  exact ⟨_, rfl, _, _, _, [], _, [], hW', trodAll_mk1 (shut_bool Try.underlying4 _), (trodAll_cons_mk (Below.trod laidOut (by kernel_rfl) (of_decide_eq_true (by kernel_rfl)) k0 bel lt0) (trodAll_cons_mk (Below.trod laidOut (by kernel_rfl) (of_decide_eq_true (by kernel_rfl)) k1 bel lt1) (trodAll_cons_mk (Below.trod laidOut (by kernel_rfl) (of_decide_eq_true (by kernel_rfl)) k2 bel lt2) trodAll_mk0))), rfl, bel.frame _, fun h => by cases h⟩

theorem over : Rows.shapeInsideRow.holds Try.pinned (OpenSpec.ofChange Rows.shapeInsideSpec) :=
  OpenClaim.holds_of_wide 4 Try.f4 rfl rfl rfl rfl rfl rfl rfl ⟨rfl, rfl, rfl, rfl, rfl⟩ rfl rfl rfl rfl rfl (by kernel_rfl) Try.func4 (by kernel_rfl)
    (of_decide_eq_true (by kernel_rfl)) (by unfold Func.isWrapper; first | (rw [if_pos (by decide +kernel)]; kernel_rfl) | (rw [if_neg (by decide +kernel)]; exact ⟨rfl, rfl⟩))
    (fun os started H enc _ => lifted os started H enc)

end Go.Proofs.Ythdgldoailjhhaa.shapeInside
namespace Go.Proofs.Ythdgldoailjhhaa
theorem shapeInside_holds : Rows.ShapeInsideSaid := shapeInside.over
#print axioms shapeInside_holds
end Go.Proofs.Ythdgldoailjhhaa
