/-
  AffineMakes answers true for every vector and every axis: the matrix that leaves all, that moves, that scales and that turns are as the document says; four quarters leave all. No conditions.
-/
import Derived.Test.YtjdoneacbnalaaaRows
import Derived.Test.YtjdoneacbnalaaaAffN
import Derived.WalkKit
import Derived.ProofKit
import Derived.OpenShut
import Derived.ShutString
import Derived.ChangeOld
import Derived.Below
namespace Go.Proofs.Ytjdoneacbnalaaa.affineMakes
open Go.ChangeShapes Go.WideShapes Go.ChangeAt Go.RowKit
set_option linter.unusedVariables false

theorem own : ownKnob Try.prog.godebug = none := by kernel_rfl
theorem laidOut : laidOutB Try.prog = true := by kernel_rfl

theorem sizeS : (Try.prog.info? 25).map (·.size) = some ([.int .i64 65536, .int .i64 0, .int .i64 0, .int .i64 0, .int .i64 0, .int .i64 65536, .int .i64 0, .int .i64 0, .int .i64 0, .int .i64 0, .int .i64 65536, .int .i64 0] : List Value).length := by kernel_rfl
theorem keepS {w : World} {g g1 g2 : Nat} {t1 t2 t3 : TypeId} {V T : Nat → Int} {cs : List Value} (hv : Blk w g t1 #[.int .i64 (V 0), .int .i64 (V 1), .int .i64 (V 2)]) (ht : Blk w g1 t2 #[.int .i64 (T 0), .int .i64 (T 1), .int .i64 (T 2), .int .i64 (T 3), .int .i64 (T 4), .int .i64 (T 5), .int .i64 (T 6), .int .i64 (T 7), .int .i64 (T 8), .int .i64 (T 9), .int .i64 (T 10), .int .i64 (T 11)]) (hm : Blk w g2 t3 cs.toArray) :
    w.cell? ⟨g, 0, none⟩ = some (.int .i64 (V 0)) ∧ w.cell? ⟨g, 1, none⟩ = some (.int .i64 (V 1)) ∧ w.cell? ⟨g, 2, none⟩ = some (.int .i64 (V 2)) ∧ w.rangeAt g1 0 [.int .i64 (T 0), .int .i64 (T 1), .int .i64 (T 2), .int .i64 (T 3), .int .i64 (T 4), .int .i64 (T 5), .int .i64 (T 6), .int .i64 (T 7), .int .i64 (T 8), .int .i64 (T 9), .int .i64 (T 10), .int .i64 (T 11)] ∧ w.rangeAt g2 0 cs :=
  ⟨hv.cell 0, hv.cell 1, hv.cell 2, rangeM ht, fun j v hj => by rw [Nat.zero_add, hm.cell j]; simpa using hj⟩

set_option maxHeartbeats 4000000 in
set_option maxRecDepth 100000 in
theorem walk_gen (V T Q R : Nat → Int) (axis : Int) (w : World)
    (h1 : ∀ w', Calls Try.prog 13 #[.int .i64 axis] w' fun e w'' => e = .returned (.agg #[.int .i64 (T 0), .int .i64 (T 1), .int .i64 (T 2), .int .i64 (T 3), .int .i64 (T 4), .int .i64 (T 5), .int .i64 (T 6), .int .i64 (T 7), .int .i64 (T 8), .int .i64 (T 9), .int .i64 (T 10), .int .i64 (T 11)]) ∧ Below w'.heap.size w' w'')
    (h2 : ∀ w' a, MRow w' a 4 [T, T, T, T] → Calls Try.prog 8 #[.slice a 4 4] w' fun e w'' => e = .returned (.tuple #[.agg #[.int .i64 65536, .int .i64 0, .int .i64 0, .int .i64 0, .int .i64 0, .int .i64 65536, .int .i64 0, .int .i64 0, .int .i64 0, .int .i64 0, .int .i64 65536, .int .i64 0], .int .i64 0]) ∧ Below w'.heap.size w' w'')
    (h3 : ∀ w', Calls Try.prog 20 #[.int .i64 axis] w' fun e w'' => e = .returned (.agg #[.int .i64 (T 0), .int .i64 (T 1), .int .i64 (T 2), .int .i64 (T 3), .int .i64 (T 4), .int .i64 (T 5), .int .i64 (T 6), .int .i64 (T 7), .int .i64 (T 8), .int .i64 (T 9), .int .i64 (T 10), .int .i64 (T 11)]) ∧ Below w'.heap.size w' w'')
    (h4 : ∀ w', Calls Try.prog 16 #[.agg #[.int .i64 (V 0), .int .i64 (V 1), .int .i64 (V 2)]] w' fun e w'' => e = .returned (.agg #[.int .i64 (Q 0), .int .i64 (Q 1), .int .i64 (Q 2), .int .i64 (Q 3), .int .i64 (Q 4), .int .i64 (Q 5), .int .i64 (Q 6), .int .i64 (Q 7), .int .i64 (Q 8), .int .i64 (Q 9), .int .i64 (Q 10), .int .i64 (Q 11)]) ∧ Below w'.heap.size w' w'')
    (h5 : ∀ w', Calls Try.prog 17 #[.agg #[.int .i64 (V 0), .int .i64 (V 1), .int .i64 (V 2)]] w' fun e w'' => e = .returned (.agg #[.int .i64 (Q 0), .int .i64 (Q 1), .int .i64 (Q 2), .int .i64 (Q 3), .int .i64 (Q 4), .int .i64 (Q 5), .int .i64 (Q 6), .int .i64 (Q 7), .int .i64 (Q 8), .int .i64 (Q 9), .int .i64 (Q 10), .int .i64 (Q 11)]) ∧ Below w'.heap.size w' w'')
    (h6 : ∀ w', Calls Try.prog 18 #[.agg #[.int .i64 (V 0), .int .i64 (V 1), .int .i64 (V 2)]] w' fun e w'' => e = .returned (.agg #[.int .i64 (R 0), .int .i64 (R 1), .int .i64 (R 2), .int .i64 (R 3), .int .i64 (R 4), .int .i64 (R 5), .int .i64 (R 6), .int .i64 (R 7), .int .i64 (R 8), .int .i64 (R 9), .int .i64 (R 10), .int .i64 (R 11)]) ∧ Below w'.heap.size w' w'')
    (h7 : ∀ w', Calls Try.prog 19 #[.agg #[.int .i64 (V 0), .int .i64 (V 1), .int .i64 (V 2)]] w' fun e w'' => e = .returned (.agg #[.int .i64 (R 0), .int .i64 (R 1), .int .i64 (R 2), .int .i64 (R 3), .int .i64 (R 4), .int .i64 (R 5), .int .i64 (R 6), .int .i64 (R 7), .int .i64 (R 8), .int .i64 (R 9), .int .i64 (R 10), .int .i64 (R 11)]) ∧ Below w'.heap.size w' w'') :
    Calls Try.prog 4 #[.agg #[.int .i64 (V 0), .int .i64 (V 1), .int .i64 (V 2)], .int .i64 axis] w fun e w' => e = .returned (.bool true) ∧ Below w.heap.size w w' := by
  have Hh1 := Lib.hid h1
  have Hh2 := Lib.hid h2
  have Hh3 := Lib.hid h3
  have Hh4 := Lib.hid h4
  have Hh5 := Lib.hid h5
  have Hh6 := Lib.hid h6
  have Hh7 := Lib.hid h7
  clear h1 h2 h3 h4 h5 h6 h7
  have heqM := eqMat
  go_enter Try.func4, Try.ntmps4
  go_wp2_with fail
  refine (Hh1.out _).mono ?_
  rintro e w1 ⟨rfl, b1⟩
  have HV := Lib.hid ((Blk.new w 27 _).keep b1)
  have HB := Lib.hid (bthen (alloc_below _ _) b1)
  clear b1
  go_wp2_with fail
  refine (Hh2.out _ _ (mrow4 (A := T) (B := T) (C := T) (D := T) (blkAt (Blk.new _ _ _) (by simp)))).mono ?_
  rintro e w2 ⟨rfl, b2⟩
  have HT := Lib.hid (((Blk.new w1 25 _).alloc _).keep b2)
  replace HV := Lib.hid (((HV.out.alloc _).alloc _).keep b2)
  replace HB := Lib.hid (bthen (balloc (balloc HB.out _) _) b2)
  clear b2
  go_wp2
  refine fin (fun W => BV3 W w.heap.size V ∧ BM W w1.heap.size T ∧ Blk W w2.heap.size 25 #[.int .i64 65536, .int .i64 0, .int .i64 0, .int .i64 0, .int .i64 0, .int .i64 65536, .int .i64 0, .int .i64 0, .int .i64 0, .int .i64 0, .int .i64 65536, .int .i64 0] ∧ Below w.heap.size w W) ⟨HV.out.alloc _, HT.out.alloc _, Blk.new w2 _ _, balloc HB.out _⟩ ?_
  rintro W ⟨hv, ht, hm, hb⟩
  clear HV HT HB
  have HV := Lib.hid hv
  have HT := Lib.hid ht
  have HM := Lib.hid hm
  have HB := Lib.hid hb
  clear hv ht hm hb
  have hsT := sizeM T
  have hsS := sizeS
  have hu := Try.underlying25
  refine wp_region_held_drew (S := fun w' => w'.cell? ⟨w.heap.size, 0, none⟩ = some (.int .i64 (V 0)) ∧ w'.cell? ⟨w.heap.size, 1, none⟩ = some (.int .i64 (V 1)) ∧ w'.cell? ⟨w.heap.size, 2, none⟩ = some (.int .i64 (V 2)) ∧ w'.rangeAt w1.heap.size 0 [.int .i64 (T 0), .int .i64 (T 1), .int .i64 (T 2), .int .i64 (T 3), .int .i64 (T 4), .int .i64 (T 5), .int .i64 (T 6), .int .i64 (T 7), .int .i64 (T 8), .int .i64 (T 9), .int .i64 (T 10), .int .i64 (T 11)] ∧ w'.rangeAt w2.heap.size 0 [.int .i64 65536, .int .i64 0, .int .i64 0, .int .i64 0, .int .i64 0, .int .i64 65536, .int .i64 0, .int .i64 0, .int .i64 0, .int .i64 0, .int .i64 65536, .int .i64 0]) (by kernel_rfl) (keepS (Blk.drew HV.out) (Blk.drew HT.out) (Blk.drew HM.out)) (fun hHeld => ?_)
  refine wpAnyH_ready (rs := [0]) (by kernel_rfl) (by simp) ?_
  refine AllReadyH.cons rfl (fun K hK => ?_) AllReadyH.nil
  go_simp
  go_at_call 6
  refine (aalive_any _).mono ?_
  rintro e w3 ⟨rfl, b1⟩
  replace HV := Lib.hid (Blk.keep HV.out (bdrew b1))
  replace HT := Lib.hid (Blk.keep HT.out (bdrew b1))
  replace HM := Lib.hid (HM.out.keep (bdrew b1))
  replace HB := Lib.hid (bthen HB.out (bdrew b1))
  clear b1
  go_wp2_with fail
  refine hK.out _ _ (keepS HV.out HT.out HM.out) (fun hHeld => ?_)
  clear hK K
  refine wpAnyH_take (i := 1) (v := ?_) rfl (by kernel_rfl) (by kernel_rfl) (by kernel_rfl) (fun _ _ _ h => h) (Or.inl ⟨by rfl, ?_⟩) hHeld ?_
  rotate_left
  · intro w hSw
    go_simp
    with_reducible rfl
  simp only [Act.put, List.getElem_toArray, List.getElem_cons_zero, List.getElem_cons_succ, List.setIfInBounds_toArray, List.set_cons_zero, List.set_cons_succ]
  refine wpAnyH_ready (rs := [2]) (by kernel_rfl) (by simp) ?_
  refine AllReadyH.cons rfl (fun K hK => ?_) AllReadyH.nil
  go_simp
  go_at_call 14
  refine (same_any _).mono ?_
  rintro e w4 ⟨rfl, b1⟩
  replace HV := Lib.hid (Blk.keep HV.out (b1))
  replace HT := Lib.hid (Blk.keep HT.out (b1))
  replace HM := Lib.hid (HM.out.keep (b1))
  replace HB := Lib.hid (bthen HB.out (b1))
  clear b1
  go_wp2_with fail
  refine hK.out _ _ (keepS HV.out HT.out HM.out) (fun hHeld => ?_)
  clear hK K
  refine wpAnyH_ready (rs := [3]) (by kernel_rfl) (by simp) ?_
  refine AllReadyH.cons rfl (fun K hK => ?_) AllReadyH.nil
  go_simp
  go_at_call 15
  refine (rsame_any _).mono ?_
  rintro e w5 ⟨rfl, b1⟩
  replace HV := Lib.hid (Blk.keep HV.out (b1))
  replace HT := Lib.hid (Blk.keep HT.out (b1))
  replace HM := Lib.hid (HM.out.keep (b1))
  replace HB := Lib.hid (bthen HB.out (b1))
  clear b1
  go_wp2_with fail
  refine hK.out _ _ (keepS HV.out HT.out HM.out) (fun hHeld => ?_)
  clear hK K
  refine wpAnyH_take (i := 4) (v := ?_) rfl (by kernel_rfl) (by kernel_rfl) (by kernel_rfl) (fun _ _ _ h => h) (Or.inl ⟨by rfl, ?_⟩) hHeld ?_
  rotate_left
  · intro w hSw
    go_simp
    with_reducible rfl
  simp only [Act.put, List.getElem_toArray, List.getElem_cons_zero, List.getElem_cons_succ, List.setIfInBounds_toArray, List.set_cons_zero, List.set_cons_succ]
  refine wpAnyH_take (i := 5) (v := ?_) rfl (by kernel_rfl) (by kernel_rfl) (by kernel_rfl) (fun _ _ _ h => h) (Or.inl ⟨by rfl, ?_⟩) hHeld ?_
  rotate_left
  · intro w hSw
    go_simp
    with_reducible rfl
  simp only [Act.put, List.getElem_toArray, List.getElem_cons_zero, List.getElem_cons_succ, List.setIfInBounds_toArray, List.set_cons_zero, List.set_cons_succ]
  refine wpAnyH_take (i := 6) (v := ?_) rfl (by kernel_rfl) (by kernel_rfl) (by kernel_rfl) (fun _ _ _ h => h) (Or.inl ⟨by rfl, ?_⟩) hHeld ?_
  rotate_left
  · intro w hSw
    go_simp
    with_reducible rfl
  simp only [Act.put, List.getElem_toArray, List.getElem_cons_zero, List.getElem_cons_succ, List.setIfInBounds_toArray, List.set_cons_zero, List.set_cons_succ]
  refine wpAnyH_take (i := 7) (v := ?_) rfl (by kernel_rfl) (by kernel_rfl) (by kernel_rfl) (fun _ _ _ h => h) (Or.inl ⟨by rfl, ?_⟩) hHeld ?_
  rotate_left
  · rintro w ⟨s0, s1, s2, _, _⟩
    go_simp
    with_reducible rfl
  simp only [Act.put, List.getElem_toArray, List.getElem_cons_zero, List.getElem_cons_succ, List.setIfInBounds_toArray, List.set_cons_zero, List.set_cons_succ]
  refine wpAnyH_take (i := 9) (v := ?_) rfl (by kernel_rfl) (by kernel_rfl) (by kernel_rfl) (fun _ _ _ h => h) (Or.inl ⟨by rfl, ?_⟩) hHeld ?_
  rotate_left
  · rintro w ⟨s0, s1, s2, _, _⟩
    go_simp
    with_reducible rfl
  simp only [Act.put, List.getElem_toArray, List.getElem_cons_zero, List.getElem_cons_succ, List.setIfInBounds_toArray, List.set_cons_zero, List.set_cons_succ]
  refine wpAnyH_ready (rs := [8]) (by kernel_rfl) (by simp) ?_
  refine AllReadyH.cons rfl (fun K hK => ?_) AllReadyH.nil
  go_simp
  go_at_call 16
  refine (Hh4.out _).mono ?_
  rintro e w6 ⟨rfl, b1⟩
  replace HV := Lib.hid (Blk.keep HV.out (b1))
  replace HT := Lib.hid (Blk.keep HT.out (b1))
  replace HM := Lib.hid (HM.out.keep (b1))
  replace HB := Lib.hid (bthen HB.out (b1))
  clear b1
  go_wp2_with fail
  refine hK.out _ _ (keepS HV.out HT.out HM.out) (fun hHeld => ?_)
  clear hK K
  refine wpAnyH_ready (rs := [10]) (by kernel_rfl) (by simp) ?_
  refine AllReadyH.cons rfl (fun K hK => ?_) AllReadyH.nil
  go_simp
  go_at_call 17
  refine (Hh5.out _).mono ?_
  rintro e w7 ⟨rfl, b1⟩
  replace HV := Lib.hid (Blk.keep HV.out (b1))
  replace HT := Lib.hid (Blk.keep HT.out (b1))
  replace HM := Lib.hid (HM.out.keep (b1))
  replace HB := Lib.hid (bthen HB.out (b1))
  clear b1
  go_wp2_with fail
  refine hK.out _ _ (keepS HV.out HT.out HM.out) (fun hHeld => ?_)
  clear hK K
  refine wpAnyH_take (i := 11) (v := ?_) rfl (by kernel_rfl) (by kernel_rfl) (by kernel_rfl) (fun _ _ _ h => h) (Or.inl ⟨by rfl, ?_⟩) hHeld ?_
  rotate_left
  · intro w hSw
    go_simp
    with_reducible rfl
  simp only [Act.put, List.getElem_toArray, List.getElem_cons_zero, List.getElem_cons_succ, List.setIfInBounds_toArray, List.set_cons_zero, List.set_cons_succ]
  refine wpAnyH_take (i := 12) (v := ?_) rfl (by kernel_rfl) (by kernel_rfl) (by kernel_rfl) (fun _ _ _ h => h) (Or.inl ⟨by rfl, ?_⟩) hHeld ?_
  rotate_left
  · intro w hSw
    go_simp
    with_reducible rfl
  simp only [Act.put, List.getElem_toArray, List.getElem_cons_zero, List.getElem_cons_succ, List.setIfInBounds_toArray, List.set_cons_zero, List.set_cons_succ]
  refine wpAnyH_take (i := 13) (v := ?_) rfl (by kernel_rfl) (by kernel_rfl) (by kernel_rfl) (fun _ _ _ h => h) (Or.inl ⟨by rfl, ?_⟩) hHeld ?_
  rotate_left
  · intro w hSw
    go_simp
    with_reducible rfl
  simp only [Act.put, List.getElem_toArray, List.getElem_cons_zero, List.getElem_cons_succ, List.setIfInBounds_toArray, List.set_cons_zero, List.set_cons_succ]
  refine wpAnyH_take (i := 14) (v := ?_) rfl (by kernel_rfl) (by kernel_rfl) (by kernel_rfl) (fun _ _ _ h => h) (Or.inl ⟨by rfl, ?_⟩) hHeld ?_
  rotate_left
  · rintro w ⟨s0, s1, s2, _, _⟩
    go_simp
    with_reducible rfl
  simp only [Act.put, List.getElem_toArray, List.getElem_cons_zero, List.getElem_cons_succ, List.setIfInBounds_toArray, List.set_cons_zero, List.set_cons_succ]
  refine wpAnyH_take (i := 16) (v := ?_) rfl (by kernel_rfl) (by kernel_rfl) (by kernel_rfl) (fun _ _ _ h => h) (Or.inl ⟨by rfl, ?_⟩) hHeld ?_
  rotate_left
  · rintro w ⟨s0, s1, s2, _, _⟩
    go_simp
    with_reducible rfl
  simp only [Act.put, List.getElem_toArray, List.getElem_cons_zero, List.getElem_cons_succ, List.setIfInBounds_toArray, List.set_cons_zero, List.set_cons_succ]
  refine wpAnyH_ready (rs := [15]) (by kernel_rfl) (by simp) ?_
  refine AllReadyH.cons rfl (fun K hK => ?_) AllReadyH.nil
  go_simp
  go_at_call 18
  refine (Hh6.out _).mono ?_
  rintro e w8 ⟨rfl, b1⟩
  replace HV := Lib.hid (Blk.keep HV.out (b1))
  replace HT := Lib.hid (Blk.keep HT.out (b1))
  replace HM := Lib.hid (HM.out.keep (b1))
  replace HB := Lib.hid (bthen HB.out (b1))
  clear b1
  go_wp2_with fail
  refine hK.out _ _ (keepS HV.out HT.out HM.out) (fun hHeld => ?_)
  clear hK K
  refine wpAnyH_ready (rs := [17]) (by kernel_rfl) (by simp) ?_
  refine AllReadyH.cons rfl (fun K hK => ?_) AllReadyH.nil
  go_simp
  go_at_call 19
  refine (Hh7.out _).mono ?_
  rintro e w9 ⟨rfl, b1⟩
  replace HV := Lib.hid (Blk.keep HV.out (b1))
  replace HT := Lib.hid (Blk.keep HT.out (b1))
  replace HM := Lib.hid (HM.out.keep (b1))
  replace HB := Lib.hid (bthen HB.out (b1))
  clear b1
  go_wp2_with fail
  refine hK.out _ _ (keepS HV.out HT.out HM.out) (fun hHeld => ?_)
  clear hK K
  refine wpAnyH_take (i := 18) (v := ?_) rfl (by kernel_rfl) (by kernel_rfl) (by kernel_rfl) (fun _ _ _ h => h) (Or.inl ⟨by rfl, ?_⟩) hHeld ?_
  rotate_left
  · intro w hSw
    go_simp
    with_reducible rfl
  simp only [Act.put, List.getElem_toArray, List.getElem_cons_zero, List.getElem_cons_succ, List.setIfInBounds_toArray, List.set_cons_zero, List.set_cons_succ]
  refine wpAnyH_take (i := 19) (v := ?_) rfl (by kernel_rfl) (by kernel_rfl) (by kernel_rfl) (fun _ _ _ h => h) (Or.inl ⟨by rfl, ?_⟩) hHeld ?_
  rotate_left
  · intro w hSw
    go_simp
    with_reducible rfl
  simp only [Act.put, List.getElem_toArray, List.getElem_cons_zero, List.getElem_cons_succ, List.setIfInBounds_toArray, List.set_cons_zero, List.set_cons_succ]
  refine wpAnyH_take (i := 20) (v := ?_) rfl (by kernel_rfl) (by kernel_rfl) (by kernel_rfl) (fun _ _ _ h => h) (Or.inl ⟨by rfl, ?_⟩) hHeld ?_
  rotate_left
  · intro w hSw
    go_simp
    with_reducible rfl
  simp only [Act.put, List.getElem_toArray, List.getElem_cons_zero, List.getElem_cons_succ, List.setIfInBounds_toArray, List.set_cons_zero, List.set_cons_succ]
  refine wpAnyH_take (i := 21) (v := _) rfl (by kernel_rfl) (by kernel_rfl) (by kernel_rfl) (fun _ _ _ h => h) (yieldsIf_load_mid (by rfl) _ _ rfl _ _ rfl _ _ (fun _ h => h.2.2.2.1) hu rfl hsT) hHeld ?_
  simp only [Act.put, List.getElem_toArray, List.getElem_cons_zero, List.getElem_cons_succ, List.setIfInBounds_toArray, List.set_cons_zero, List.set_cons_succ]
  refine wpAnyH_take (i := 22) (v := ?_) rfl (by kernel_rfl) (by kernel_rfl) (by kernel_rfl) (fun _ _ _ h => h) (Or.inl ⟨by rfl, ?_⟩) hHeld ?_
  rotate_left
  · intro w hSw
    go_simp
    with_reducible rfl
  simp only [Act.put, List.getElem_toArray, List.getElem_cons_zero, List.getElem_cons_succ, List.setIfInBounds_toArray, List.set_cons_zero, List.set_cons_succ]
  refine wpAnyH_ready (rs := [23]) (by kernel_rfl) (by simp) ?_
  refine AllReadyH.cons rfl (fun K hK => ?_) AllReadyH.nil
  go_simp
  go_at_call 20
  refine (Hh3.out _).mono ?_
  rintro e w10 ⟨rfl, b1⟩
  replace HV := Lib.hid (Blk.keep HV.out (b1))
  replace HT := Lib.hid (Blk.keep HT.out (b1))
  replace HM := Lib.hid (HM.out.keep (b1))
  replace HB := Lib.hid (bthen HB.out (b1))
  clear b1
  go_wp2_with fail
  refine hK.out _ _ (keepS HV.out HT.out HM.out) (fun hHeld => ?_)
  clear hK K
  refine wpAnyH_take (i := 24) (v := ?_) rfl (by kernel_rfl) (by kernel_rfl) (by kernel_rfl) (fun _ _ _ h => h) (Or.inl ⟨by rfl, ?_⟩) hHeld ?_
  rotate_left
  · intro w hSw
    go_simp
    with_reducible rfl
  simp only [Act.put, List.getElem_toArray, List.getElem_cons_zero, List.getElem_cons_succ, List.setIfInBounds_toArray, List.set_cons_zero, List.set_cons_succ]
  refine wpAnyH_take (i := 25) (v := ?_) rfl (by kernel_rfl) (by kernel_rfl) (by kernel_rfl) (fun _ _ _ h => h) (Or.inl ⟨by rfl, ?_⟩) hHeld ?_
  rotate_left
  · intro w hSw
    go_simp
    with_reducible rfl
  simp only [Act.put, List.getElem_toArray, List.getElem_cons_zero, List.getElem_cons_succ, List.setIfInBounds_toArray, List.set_cons_zero, List.set_cons_succ]
  refine wpAnyH_take (i := 26) (v := ?_) rfl (by kernel_rfl) (by kernel_rfl) (by kernel_rfl) (fun _ _ _ h => h) (Or.inl ⟨by rfl, ?_⟩) hHeld ?_
  rotate_left
  · intro w hSw
    go_simp
    with_reducible rfl
  simp only [Act.put, List.getElem_toArray, List.getElem_cons_zero, List.getElem_cons_succ, List.setIfInBounds_toArray, List.set_cons_zero, List.set_cons_succ]
  refine wpAnyH_take (i := 27) (v := ?_) rfl (by kernel_rfl) (by kernel_rfl) (by kernel_rfl) (fun _ _ _ h => h) (Or.inl ⟨by rfl, ?_⟩) hHeld ?_
  rotate_left
  · intro w hSw
    go_simp
    with_reducible rfl
  simp only [Act.put, List.getElem_toArray, List.getElem_cons_zero, List.getElem_cons_succ, List.setIfInBounds_toArray, List.set_cons_zero, List.set_cons_succ]
  refine wpAnyH_take (i := 28) (v := ?_) rfl (by kernel_rfl) (by kernel_rfl) (by kernel_rfl) (fun _ _ _ h => h) (Or.inl ⟨by rfl, ?_⟩) hHeld ?_
  rotate_left
  · intro w hSw
    go_simp
    with_reducible rfl
  simp only [Act.put, List.getElem_toArray, List.getElem_cons_zero, List.getElem_cons_succ, List.setIfInBounds_toArray, List.set_cons_zero, List.set_cons_succ]
  refine wpAnyH_take (i := 29) (v := ?_) rfl (by kernel_rfl) (by kernel_rfl) (by kernel_rfl) (fun _ _ _ h => h) (Or.inl ⟨by rfl, ?_⟩) hHeld ?_
  rotate_left
  · intro w hSw
    go_simp
    with_reducible rfl
  simp only [Act.put, List.getElem_toArray, List.getElem_cons_zero, List.getElem_cons_succ, List.setIfInBounds_toArray, List.set_cons_zero, List.set_cons_succ]
  refine wpAnyH_take (i := 30) (v := ?_) rfl (by kernel_rfl) (by kernel_rfl) (by kernel_rfl) (fun _ _ _ h => h) (Or.inl ⟨by rfl, ?_⟩) hHeld ?_
  rotate_left
  · intro w hSw
    go_simp
    with_reducible rfl
  simp only [Act.put, List.getElem_toArray, List.getElem_cons_zero, List.getElem_cons_succ, List.setIfInBounds_toArray, List.set_cons_zero, List.set_cons_succ]
  refine wpAnyH_take (i := 31) (v := _) rfl (by kernel_rfl) (by kernel_rfl) (by kernel_rfl) (fun _ _ _ h => h) (yieldsIf_load_mid (by rfl) _ _ rfl _ _ rfl _ _ (fun _ h => h.2.2.2.2) hu rfl hsS) hHeld ?_
  simp only [Act.put, List.getElem_toArray, List.getElem_cons_zero, List.getElem_cons_succ, List.setIfInBounds_toArray, List.set_cons_zero, List.set_cons_succ]
  refine wpAnyH_ready (rs := [32]) (by kernel_rfl) (by simp) ?_
  refine AllReadyH.cons rfl (fun K hK => ?_) AllReadyH.nil
  go_simp
  go_at_call 15
  refine (rsame_any _).mono ?_
  rintro e w11 ⟨rfl, b1⟩
  replace HV := Lib.hid (Blk.keep HV.out (b1))
  replace HT := Lib.hid (Blk.keep HT.out (b1))
  replace HM := Lib.hid (HM.out.keep (b1))
  replace HB := Lib.hid (bthen HB.out (b1))
  clear b1
  go_wp2_with fail
  refine hK.out _ _ (keepS HV.out HT.out HM.out) (fun hHeld => ?_)
  clear hK K
  refine wpAnyH_take (i := 33) (v := ?_) rfl (by kernel_rfl) (by kernel_rfl) (by kernel_rfl) (fun _ _ _ h => h) (Or.inl ⟨by rfl, ?_⟩) hHeld ?_
  rotate_left
  · intro w hSw
    go_simp
    with_reducible rfl
  simp only [Act.put, List.getElem_toArray, List.getElem_cons_zero, List.getElem_cons_succ, List.setIfInBounds_toArray, List.set_cons_zero, List.set_cons_succ]
  refine wpAnyH_take (i := 34) (v := ?_) rfl (by kernel_rfl) (by kernel_rfl) (by kernel_rfl) (fun _ _ _ h => h) (Or.inl ⟨by rfl, ?_⟩) hHeld ?_
  rotate_left
  · intro w hSw
    go_simp
    with_reducible rfl
  simp only [Act.put, List.getElem_toArray, List.getElem_cons_zero, List.getElem_cons_succ, List.setIfInBounds_toArray, List.set_cons_zero, List.set_cons_succ]
  refine wpAnyH_take (i := 35) (v := ?_) rfl (by kernel_rfl) (by kernel_rfl) (by kernel_rfl) (fun _ _ _ h => h) (Or.inl ⟨by rfl, ?_⟩) hHeld ?_
  rotate_left
  · intro w hSw
    go_simp
    with_reducible rfl
  simp only [Act.put, List.getElem_toArray, List.getElem_cons_zero, List.getElem_cons_succ, List.setIfInBounds_toArray, List.set_cons_zero, List.set_cons_succ]
  refine wpAnyH_done (by kernel_rfl) ?_ _
  clear hHeld
  go_wp2
  go_ret
  exact ⟨rfl, HB.out⟩

theorem four (a : Int) (h : a = 0 ∨ a = 1 ∨ a = 2) : (mulMs [turnM a, turnM a, turnM a, turnM a]).2 = 0 ∧ ∀ k, k < 12 → (mulMs [turnM a, turnM a, turnM a, turnM a]).1 k = sameM k := by
  rcases h with rfl | rfl | rfl <;> decide
theorem four_mul (a : Int) (h : a = 0 ∨ a = 1 ∨ a = 2) (w : World) (b : Option Addr) (row : MRow w b 4 [turnM a, turnM a, turnM a, turnM a]) :
    Calls Try.prog 8 #[.slice b 4 4] w fun e w'' => e = .returned (.tuple #[.agg #[.int .i64 65536, .int .i64 0, .int .i64 0, .int .i64 0, .int .i64 0, .int .i64 65536, .int .i64 0, .int .i64 0, .int .i64 0, .int .i64 0, .int .i64 65536, .int .i64 0], .int .i64 0]) ∧ Below w.heap.size w w'' :=
  (mmul_any b 4 4 _ w row (by omega) (by omega)).mono fun _ _ ⟨he, hw⟩ => ⟨by rw [he, (four a h).1, (four a h).2 0 (by omega), (four a h).2 1 (by omega), (four a h).2 2 (by omega), (four a h).2 3 (by omega), (four a h).2 4 (by omega), (four a h).2 5 (by omega), (four a h).2 6 (by omega), (four a h).2 7 (by omega), (four a h).2 8 (by omega), (four a h).2 9 (by omega), (four a h).2 10 (by omega), (four a h).2 11 (by omega)]; rfl, hw⟩

theorem walk (V : Nat → Int) (axis : Int) (w : World) :
    Calls Try.prog 4 #[.agg #[.int .i64 (V 0), .int .i64 (V 1), .int .i64 (V 2)], .int .i64 axis] w fun e w' => e = .returned (.bool true) ∧ Below w.heap.size w w' :=
  walk_gen V (turnM (axis % 3)) (moveM V) (diagM V) axis w (fun w' => turn_any axis w') (fun w' a hr => four_mul (axis % 3) (by omega) w' a hr) (fun w' => rturn_any axis w')
    (fun w' => move_xyz (V 0) (V 1) (V 2) w') (fun w' => rmove_xyz (V 0) (V 1) (V 2) w') (fun w' => scale_xyz (V 0) (V 1) (V 2) w') (fun w' => rdiag_xyz (V 0) (V 1) (V 2) w')

set_option maxRecDepth 100000 in
theorem lifted (os : Os) (started : os.Started) (H : Type) (enc : TypeId × Value → H) :
    ReturnsInHanded {} Try.checked os 4 .any (Rows.affineMakesSpec.pre6 enc Try.prog Try.f4 Rows.affineMakesRow.domain false) (Rows.affineMakesSpec.post enc Try.prog Try.f4 false true false false) := by
  refine returnsInHanded_of_change (C := Try.checked) own started (by kernel_rfl) Try.func4
    (ChangeSpec.witness6 (enc := enc) (C := Try.checked) false ⟨#[], #[.agg #[.int .i64 0, .int .i64 0, .int .i64 0], .int .i64 0], []⟩ 8 (by kernel_rfl) (by kernel_rfl) (by kernel_rfl) (by kernel_rfl)) ?_
  intro W base args ds gs before hval0 hW hcnd _
  have hval : ∀ (j : Nat) t v, Try.f4.params[j]? = some t → args[j]? = some v → Value.okWide Try.prog W .any base t v := hval0
  have hW' := hW
  obtain ⟨p, q, hA0, hV, rfl, hfz, hnd⟩ := hW
  have hA : DataW.TrodAll enc Try.prog W 0 (fun _ => true) true Try.f4.params.toList args.toList ds p := hA0
  rw [Try.params4] at hA hval
  obtain ⟨v0, vs0, d0, ds0, p0, q0, hargs, rfl, rfl, h0, r0⟩ := trodAll_cons hA
  obtain ⟨v1, vs1, d1, ds1, p1, q1, rfl, rfl, rfl, h1, r1⟩ := trodAll_cons r0
  obtain ⟨rfl, rfl, rfl⟩ := trodAll_nil r1
  obtain rfl : args = #[v0, v1] := by cases args; simp_all
  obtain ⟨rfl, rfl⟩ := trodVars_none hV
  have k0 := h0
  have lt0 : ∀ x ∈ p0, x.block < W.heap.size := by obtain ⟨m, hm⟩ := k0; exact DataW.trod_lt m _ _ _ hm
  obtain ⟨V, rfl⟩ := open_vec3 (hval 0 27 v0 rfl rfl) h0
  obtain ⟨a1, rfl, rfl, rfl, w1⟩ := open_int Try.underlying3 (hval 1 3 v1 rfl rfl) h1
  clear hA0 hval0
  refine (walk V a1 W).mono fun e W' ⟨he, bel⟩ => ?_
  subst he
  exact ⟨_, rfl, _, _, _, [], _, [], hW', trodAll_mk1 (shut_bool Try.underlying4 _), (trodAll_cons_mk (Below.trod laidOut (by kernel_rfl) (of_decide_eq_true (by kernel_rfl)) k0 bel lt0) (trodAll_cons_mk (shut_int Try.underlying3 w1) trodAll_mk0)), rfl, bel.frame _, fun h => by cases h⟩

theorem over : Rows.affineMakesRow.holds Try.pinned (OpenSpec.ofChange Rows.affineMakesSpec) :=
  OpenClaim.holds_of_wide 4 Try.f4 rfl rfl rfl rfl rfl rfl rfl ⟨rfl, rfl, rfl, rfl, rfl⟩ rfl rfl rfl rfl rfl (by kernel_rfl) Try.func4 (by kernel_rfl)
    (of_decide_eq_true (by kernel_rfl)) (by unfold Func.isWrapper; first | (rw [if_pos (by decide +kernel)]; kernel_rfl) | (rw [if_neg (by decide +kernel)]; exact ⟨rfl, rfl⟩))
    (fun os started H enc _ => lifted os started H enc)

end Go.Proofs.Ytjdoneacbnalaaa.affineMakes
namespace Go.Proofs.Ytjdoneacbnalaaa
theorem affineMakes_holds : Rows.AffineMakesSaid := affineMakes.over
#print axioms affineMakes_holds
end Go.Proofs.Ytjdoneacbnalaaa
