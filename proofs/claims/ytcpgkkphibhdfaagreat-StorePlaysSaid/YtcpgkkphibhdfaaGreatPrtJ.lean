/-
  What the program's closures of layer 6 (a kind's values laid) answer.
-/
import Derived.Test.YtcpgkkphibhdfaaGreatMPrh
import Derived.Deep.RegionHeld3
namespace Go.Proofs.YtcpgkkphibhdfaaGreat
open Go.RowKit

set_option maxHeartbeats 2000000 in
set_option maxRecDepth 100000 in
theorem cl_place (X Y X' : List Value) (g : Nat) (V : List Value) (hV : (Y.drop 1).take 12 = V) (hV2 : V.length = 12) (hV3 : V.toArray.all (·.oneCell') = true) (hs : splice X 1 V = X') (w : World) (kq : Blk w g 44 Y.toArray) (hX : X.length = 24) (hX' : X'.length = 24) (ho : X'.toArray.all (·.oneCell') = true) :
    Calls Tryz.prog 158 #[.agg X.toArray, .pointer (some ⟨g, 0, none⟩)] w fun e w' => e = .returned (.agg X'.toArray) ∧ Below w.heap.size w w' := by
  have HO := Lib.hid ho
  have HS : Hid ((Tryz.prog.info? 44).map (·.size) = some X'.length) := Lib.hid (by rw [hX']; kernel_rfl)
  have HS' : Hid ((Tryz.prog.info? 44).map (·.size) = some X'.toArray.size) := Lib.hid (by rw [List.size_toArray, hX']; kernel_rfl)
  have HZ : Hid (0 + X'.toArray.size ≤ Z24.length) := Lib.hid (by rw [List.size_toArray, hX']; exact Nat.le_refl 24)
  have HZ2 : Hid (0 + X'.length ≤ Z24.length) := Lib.hid (by rw [hX']; exact Nat.le_refl 24)
  have HZ3 : Hid (X'.length = Z24.length) := Lib.hid (by rw [hX']; rfl)
  have HX := Lib.hid hX
  have KP := Lib.hid ((Blk.new w 44 X.toArray).alloc (.cells Z24.toArray 44))
  have KR := Lib.hid (blkAt (Blk.new (w.alloc (.cells X.toArray 44)) 44 Z24.toArray) (g' := w.heap.size + 1) (by simp))
  have KQ := Lib.hid ((kq.alloc (.cells X.toArray 44)).alloc (.cells Z24.toArray 44))
  have hg := kq.lt
  have KQw := Lib.hid kq
  clear ho hX hX' kq
  have HS2 : Hid ((Tryz.prog.info? 38).map (·.size) = some V.length) := Lib.hid (by rw [hV2]; kernel_rfl)
  have HS3 : Hid ((Tryz.prog.info? 38).map (·.size) = some V.toArray.size) := Lib.hid (by rw [List.size_toArray, hV2]; kernel_rfl)
  have HO3 := Lib.hid hV3
  have HV2 := Lib.hid hV2
  have HR3 : Hid (((w.alloc (.cells X.toArray 44)).alloc (.cells Z24.toArray 44)).rangeAt g 1 V) := Lib.hid (hV ▸ blk_range KQ.out 1 12)
  have HT3 : Hid (((w.alloc (.cells X.toArray 44)).alloc (.cells Z24.toArray 44)).there w.heap.size 1 V.toArray.size) := Lib.hid (blk_there KP.out (by rw [List.size_toArray, HV2.out, HX.out]; omega))
  have KP2 : Hid (Blk (((w.alloc (.cells X.toArray 44)).alloc (.cells Z24.toArray 44)).setCells w.heap.size 1 V) w.heap.size 44 X'.toArray) := Lib.hid (hs ▸ blk_setCells V KP.out (by rw [HV2.out, HX.out]; omega))
  have KR2 : Hid (Blk (((w.alloc (.cells X.toArray 44)).alloc (.cells Z24.toArray 44)).setCells w.heap.size 1 V) (w.heap.size + 1) 44 Z24.toArray) := Lib.hid (blk_setFar V KR.out (by omega))
  have HB2 : Hid (Below w.heap.size w (((w.alloc (.cells X.toArray 44)).alloc (.cells Z24.toArray 44)).setCells w.heap.size 1 V)) := Lib.hid (below_setCells V (balloc (alloc_below _ _) _) (Nat.le_refl _))
  go_enter Tryz.func158, Tryz.ntmps158
  go_wp2_with (first | refine wpList_load_mid rfl 38 (.tmp 4) rfl g 1 rfl V _ HR3.out Tryz.underlying38 rfl HS2.out ?_ | refine wpList_store_mid rfl 38 (.tmp 6) (.tmp 5) rfl w.heap.size 1 V.toArray rfl rfl HT3.out HS3.out HO3.out ?_ | refine wpList_store_mid rfl 44 (.tmp 3) (.tmp 7) rfl (w.heap.size + 1) 0 X'.toArray rfl rfl (blk_there KR2.out HZ.out) HS'.out HO.out ?_ | refine wpList_load_mid rfl 44 (.tmp 2) rfl w.heap.size 0 rfl X' _ (blk_whole KP2.out) Tryz.underlying44 rfl HS.out ?_)
  have KW := Lib.hid (splice_all HZ3.out ▸ blk_setCells X' KR2.out HZ2.out)
  refine fin (fun W => Blk W (w.heap.size + 1) 44 X'.toArray ∧ Below w.heap.size w W) ⟨KW.out, below_setCells _ HB2.out (by omega)⟩ ?_
  rintro W ⟨kr, hb⟩
  have hl := run_loadVar_mid W (w.heap.size + 1) 0 44 X' _ (blk_whole kr) Tryz.underlying44 rfl HS.out
  simp only [Act.put, List.setIfInBounds_toArray, List.set_cons_zero, List.set_cons_succ]
  exact bodyPost_ret (v := .agg X'.toArray) (results_cell Tryz.results158 rfl hl) rfl ⟨rfl, hb⟩

set_option maxHeartbeats 2000000 in
set_option maxRecDepth 100000 in
theorem cl_layer (X Y X' : List Value) (g : Nat) (l2 : Int) (x23 : Value) (hx23 : X[23]? = some x23) (hy23 : Y[23]? = some (.int .i64 l2)) (hs : X.set 23 (.int .i64 l2) = X') (w : World) (kq : Blk w g 44 Y.toArray) (hX : X.length = 24) (hX' : X'.length = 24) (ho : X'.toArray.all (·.oneCell') = true) :
    Calls Tryz.prog 161 #[.agg X.toArray, .pointer (some ⟨g, 0, none⟩)] w fun e w' => e = .returned (.agg X'.toArray) ∧ Below w.heap.size w w' := by
  have HO := Lib.hid ho
  have HS : Hid ((Tryz.prog.info? 44).map (·.size) = some X'.length) := Lib.hid (by rw [hX']; kernel_rfl)
  have HS' : Hid ((Tryz.prog.info? 44).map (·.size) = some X'.toArray.size) := Lib.hid (by rw [List.size_toArray, hX']; kernel_rfl)
  have HZ : Hid (0 + X'.toArray.size ≤ Z24.length) := Lib.hid (by rw [List.size_toArray, hX']; exact Nat.le_refl 24)
  have HZ2 : Hid (0 + X'.length ≤ Z24.length) := Lib.hid (by rw [hX']; exact Nat.le_refl 24)
  have HZ3 : Hid (X'.length = Z24.length) := Lib.hid (by rw [hX']; rfl)
  have HX := Lib.hid hX
  have KP := Lib.hid ((Blk.new w 44 X.toArray).alloc (.cells Z24.toArray 44))
  have KR := Lib.hid (blkAt (Blk.new (w.alloc (.cells X.toArray 44)) 44 Z24.toArray) (g' := w.heap.size + 1) (by simp))
  have KQ := Lib.hid ((kq.alloc (.cells X.toArray 44)).alloc (.cells Z24.toArray 44))
  have hg := kq.lt
  have KQw := Lib.hid kq
  clear ho hX hX' kq
  have q23 : w.cell? ⟨g, 23, none⟩ = some (.int .i64 l2) := by rw [KQw.out.cell 23]; simpa using hy23
  have p23 : ((w.alloc (.cells X.toArray 44)).alloc (.cells Z24.toArray 44)).cell? ⟨w.heap.size, 23, none⟩ = some x23 := by rw [KP.out.cell 23]; simpa using hx23
  have f23 : ((w.alloc (.cells X.toArray 44)).alloc (.cells Z24.toArray 44)).frozen? ⟨w.heap.size, 23, none⟩ = false := KP.out.frozen 23
  have KP2 : Hid (Blk ((w.alloc (.cells X'.toArray 44)).alloc (.cells Z24.toArray 44)) w.heap.size 44 X'.toArray) := Lib.hid ((Blk.new w 44 X'.toArray).alloc (.cells Z24.toArray 44))
  have KR2 : Hid (Blk ((w.alloc (.cells X'.toArray 44)).alloc (.cells Z24.toArray 44)) (w.heap.size + 1) 44 Z24.toArray) := Lib.hid (blkAt (Blk.new (w.alloc (.cells X'.toArray 44)) 44 Z24.toArray) (g' := w.heap.size + 1) (by simp))
  have HB2 : Hid (Below w.heap.size w ((w.alloc (.cells X'.toArray 44)).alloc (.cells Z24.toArray 44))) := Lib.hid (balloc (alloc_below _ _) _)
  go_enter Tryz.func161, Tryz.ntmps161
  go_wp2_with (first | refine wpList_store_mid rfl 44 (.tmp 3) (.tmp 7) rfl (w.heap.size + 1) 0 X'.toArray rfl rfl (blk_there KR2.out HZ.out) HS'.out HO.out ?_ | refine wpList_load_mid rfl 44 (.tmp 2) rfl w.heap.size 0 rfl X' _ (blk_whole KP2.out) Tryz.underlying44 rfl HS.out ?_)
  have KW := Lib.hid (splice_all HZ3.out ▸ blk_setCells X' KR2.out HZ2.out)
  refine fin (fun W => Blk W (w.heap.size + 1) 44 X'.toArray ∧ Below w.heap.size w W) ⟨KW.out, below_setCells _ HB2.out (by omega)⟩ ?_
  rintro W ⟨kr, hb⟩
  have hl := run_loadVar_mid W (w.heap.size + 1) 0 44 X' _ (blk_whole kr) Tryz.underlying44 rfl HS.out
  simp only [Act.put, List.setIfInBounds_toArray, List.set_cons_zero, List.set_cons_succ]
  exact bodyPost_ret (v := .agg X'.toArray) (results_cell Tryz.results161 rfl hl) rfl ⟨rfl, hb⟩

set_option maxHeartbeats 2000000 in
set_option maxRecDepth 100000 in
theorem cl_hide (X X' : List Value) (hs : X = X') (w : World) (hX : X.length = 24) (hX' : X'.length = 24) (ho : X'.toArray.all (·.oneCell') = true) :
    Calls Tryz.prog 162 #[.agg X.toArray] w fun e w' => e = .returned (.agg X'.toArray) ∧ Below w.heap.size w w' := by
  have HO := Lib.hid ho
  have HS : Hid ((Tryz.prog.info? 44).map (·.size) = some X'.length) := Lib.hid (by rw [hX']; kernel_rfl)
  have HS' : Hid ((Tryz.prog.info? 44).map (·.size) = some X'.toArray.size) := Lib.hid (by rw [List.size_toArray, hX']; kernel_rfl)
  have HZ : Hid (0 + X'.toArray.size ≤ Z24.length) := Lib.hid (by rw [List.size_toArray, hX']; exact Nat.le_refl 24)
  have HZ2 : Hid (0 + X'.length ≤ Z24.length) := Lib.hid (by rw [hX']; exact Nat.le_refl 24)
  have HZ3 : Hid (X'.length = Z24.length) := Lib.hid (by rw [hX']; rfl)
  have HX := Lib.hid hX
  have KP := Lib.hid ((Blk.new w 44 X.toArray).alloc (.cells Z24.toArray 44))
  have KR := Lib.hid (blkAt (Blk.new (w.alloc (.cells X.toArray 44)) 44 Z24.toArray) (g' := w.heap.size + 1) (by simp))
  skip
  skip
  skip
  clear ho hX hX' 
  have Hs := Lib.hid hs
  clear hs
  have KP2 : Hid (Blk ((w.alloc (.cells X.toArray 44)).alloc (.cells Z24.toArray 44)) w.heap.size 44 X'.toArray) := Lib.hid (Hs.out ▸ KP.out)
  have KR2 : Hid (Blk ((w.alloc (.cells X.toArray 44)).alloc (.cells Z24.toArray 44)) (w.heap.size + 1) 44 Z24.toArray) := Lib.hid (KR.out)
  have HB2 : Hid (Below w.heap.size w ((w.alloc (.cells X.toArray 44)).alloc (.cells Z24.toArray 44))) := Lib.hid (balloc (alloc_below _ _) _)
  go_enter Tryz.func162, Tryz.ntmps162
  go_wp2_with (first | refine wpList_store_mid rfl 44 (.tmp 2) (.tmp 3) rfl (w.heap.size + 1) 0 X'.toArray rfl rfl (blk_there KR2.out HZ.out) HS'.out HO.out ?_ | refine wpList_load_mid rfl 44 (.tmp 1) rfl w.heap.size 0 rfl X' _ (blk_whole KP2.out) Tryz.underlying44 rfl HS.out ?_)
  have KW := Lib.hid (splice_all HZ3.out ▸ blk_setCells X' KR2.out HZ2.out)
  refine fin (fun W => Blk W (w.heap.size + 1) 44 X'.toArray ∧ Below w.heap.size w W) ⟨KW.out, below_setCells _ HB2.out (by omega)⟩ ?_
  rintro W ⟨kr, hb⟩
  have hl := run_loadVar_mid W (w.heap.size + 1) 0 44 X' _ (blk_whole kr) Tryz.underlying44 rfl HS.out
  simp only [Act.put, List.setIfInBounds_toArray, List.set_cons_zero, List.set_cons_succ]
  exact bodyPost_ret (v := .agg X'.toArray) (results_cell Tryz.results162 rfl hl) rfl ⟨rfl, hb⟩

set_option maxHeartbeats 2000000 in
set_option maxRecDepth 100000 in
theorem cl_shape (X Y X' : List Value) (g : Nat) (V : List Value) (m2 : Int) (x13 : Value) (hx13 : X[13]? = some x13) (hy13 : Y[13]? = some (.int .i64 m2)) (hV : (Y.drop 14).take 6 = V) (hV2 : V.length = 6) (hV3 : V.toArray.all (·.oneCell') = true) (hs : splice (X.set 13 (.int .i64 m2)) 14 V = X') (w : World) (kq : Blk w g 44 Y.toArray) (hX : X.length = 24) (hX' : X'.length = 24) (ho : X'.toArray.all (·.oneCell') = true) :
    Calls Tryz.prog 159 #[.agg X.toArray, .pointer (some ⟨g, 0, none⟩)] w fun e w' => e = .returned (.agg X'.toArray) ∧ Below w.heap.size w w' := by
  have HO := Lib.hid ho
  have HS : Hid ((Tryz.prog.info? 44).map (·.size) = some X'.length) := Lib.hid (by rw [hX']; kernel_rfl)
  have HS' : Hid ((Tryz.prog.info? 44).map (·.size) = some X'.toArray.size) := Lib.hid (by rw [List.size_toArray, hX']; kernel_rfl)
  have HZ : Hid (0 + X'.toArray.size ≤ Z24.length) := Lib.hid (by rw [List.size_toArray, hX']; exact Nat.le_refl 24)
  have HZ2 : Hid (0 + X'.length ≤ Z24.length) := Lib.hid (by rw [hX']; exact Nat.le_refl 24)
  have HZ3 : Hid (X'.length = Z24.length) := Lib.hid (by rw [hX']; rfl)
  have HX := Lib.hid hX
  have HS2 : Hid ((Tryz.prog.info? 42).map (·.size) = some V.length) := Lib.hid (by rw [hV2]; kernel_rfl)
  have HS3 : Hid ((Tryz.prog.info? 42).map (·.size) = some V.toArray.size) := Lib.hid (by rw [List.size_toArray, hV2]; kernel_rfl)
  have HO3 := Lib.hid hV3
  have HVV := Lib.hid hV
  have HV2 := Lib.hid hV2
  have Hs := Lib.hid hs
  clear hV hV2 hV3 hs
  have KQ0 := Lib.hid kq
  have hg := kq.lt
  clear ho hX hX' kq
  go_enter Tryz.func159, Tryz.ntmps159
  go_wp2_with fail
  refine fin (fun W => Blk W w.heap.size 44 X.toArray ∧ Blk W (w.heap.size + 1) 44 Z24.toArray ∧ Blk W g 44 Y.toArray ∧ Below w.heap.size w W) ⟨(Blk.new w 44 X.toArray).alloc (.cells Z24.toArray 44), blkAt (Blk.new (w.alloc (.cells X.toArray 44)) 44 Z24.toArray) (by simp), (KQ0.out.alloc _).alloc _, balloc (alloc_below _ _) _⟩ ?_
  rintro W ⟨kp, kr, kq, hb⟩
  have KP := Lib.hid kp
  have KR := Lib.hid kr
  have KQ := Lib.hid kq
  have HB := Lib.hid hb
  clear kp kr hb kq KQ0
  have q13 : ∀ u, Blk u g 44 Y.toArray → u.cell? ⟨g, 13, none⟩ = some (.int .i64 m2) ∧ u.rangeAt g 14 V := fun _ k => ⟨by rw [k.cell 13]; simpa using hy13, HVV.out ▸ blk_range k 14 6⟩
  have Q13 := Lib.hid q13
  clear q13
  have p13 : W.cell? ⟨w.heap.size, 13, none⟩ = some x13 := by rw [KP.out.cell 13]; simpa using hx13
  have f13 : W.frozen? ⟨w.heap.size, 13, none⟩ = false := KP.out.frozen 13
  have hu := Tryz.underlying42
  go_wp2_with fail
  refine wp_region_held_drew (S := fun w' => w'.cell? ⟨g, 13, none⟩ = some (.int .i64 m2) ∧ w'.rangeAt g 14 V) (by kernel_rfl) (Q13.out _ KQ.out) (fun hHeld => ?_)
  refine wpAnyH_take (i := 0) (v := ?_) rfl (by kernel_rfl) (by kernel_rfl) (by kernel_rfl) (fun _ _ _ h => h) (Or.inl ⟨by rfl, ?_⟩) hHeld ?_
  rotate_left
  · intro w hSw
    obtain ⟨s1, s2⟩ := hSw
    go_simp
    with_reducible rfl
  simp only [Act.put, List.getElem_toArray, List.getElem_cons_zero, List.setIfInBounds_toArray, List.set_cons_zero, List.set_cons_succ]
  refine wpAnyH_take (i := 1) (v := ?_) rfl (by kernel_rfl) (by kernel_rfl) (by kernel_rfl) (fun _ _ _ h => h) (Or.inl ⟨by rfl, ?_⟩) hHeld ?_
  rotate_left
  · intro w hSw
    obtain ⟨s1, s2⟩ := hSw
    go_simp
    with_reducible rfl
  simp only [Act.put, List.getElem_toArray, List.getElem_cons_zero, List.getElem_cons_succ, List.setIfInBounds_toArray, List.set_cons_zero, List.set_cons_succ]
  refine wpAnyH_take (i := 2) (v := ?_) rfl (by kernel_rfl) (by kernel_rfl) (by kernel_rfl) (fun _ _ _ h => h) (Or.inl ⟨by rfl, ?_⟩) hHeld ?_
  rotate_left
  · intro w hSw
    obtain ⟨s1, s2⟩ := hSw
    go_simp
    with_reducible rfl
  simp only [Act.put, List.getElem_toArray, List.getElem_cons_zero, List.getElem_cons_succ, List.setIfInBounds_toArray, List.set_cons_zero, List.set_cons_succ]
  refine wpAnyH_take (i := 3) (v := _) rfl (by kernel_rfl) (by kernel_rfl) (by kernel_rfl) (fun _ _ _ h => h) (yieldsIf_load_mid (by rfl) _ _ rfl _ _ rfl _ _ (fun _ h => h.2) hu rfl HS2.out) hHeld ?_
  simp only [Act.put, List.getElem_toArray, List.getElem_cons_zero, List.getElem_cons_succ, List.setIfInBounds_toArray, List.set_cons_zero, List.set_cons_succ]
  refine wpAnyH_take (i := 4) (v := ?_) rfl (by kernel_rfl) (by kernel_rfl) (by kernel_rfl) (fun _ _ _ h => h) (Or.inl ⟨by rfl, ?_⟩) hHeld ?_
  rotate_left
  · intro w hSw
    obtain ⟨s1, s2⟩ := hSw
    go_simp
    with_reducible rfl
  simp only [Act.put, List.getElem_toArray, List.getElem_cons_zero, List.getElem_cons_succ, List.setIfInBounds_toArray, List.set_cons_zero, List.set_cons_succ]
  refine wpAnyH_ready (rs := [5]) (by kernel_rfl) (by simp) ?_
  refine AllReadyH.cons rfl (fun K hK => ?_) AllReadyH.nil
  go_simp
  refine hK.out _ _ (Q13.out _ (KQ.out.far (p := ⟨w.heap.size, 13, none⟩) (by simp; omega) _)) (fun hHeld => ?_)
  clear hK K
  refine wpAnyH_take (i := 6) (v := ?_) rfl (by kernel_rfl) (by kernel_rfl) (by kernel_rfl) (fun _ _ _ h => h) (Or.inl ⟨by rfl, ?_⟩) hHeld ?_
  rotate_left
  · intro w hSw
    obtain ⟨s1, s2⟩ := hSw
    go_simp
    with_reducible rfl
  simp only [Act.put, List.getElem_toArray, List.getElem_cons_zero, List.getElem_cons_succ, List.setIfInBounds_toArray, List.set_cons_zero, List.set_cons_succ]
  have K1 := Lib.hid (show Blk (W.setCell ⟨w.heap.size, 13, none⟩ (.int .i64 m2)) w.heap.size 44 (X.set 13 (.int .i64 m2)).toArray by have := KP.out.set_ 13 (.int .i64 m2); simpa using this)
  refine wpAnyH_ready (rs := [7]) (by kernel_rfl) (by simp) ?_
  refine AllReadyH.cons rfl (fun K hK => ?_) AllReadyH.nil
  rw [if_pos (by rfl)]
  refine wp_store_mid 42 _ _ rfl w.heap.size 14 V.toArray rfl rfl (blk_there (Blk.drew K1.out) (by rw [List.size_toArray, HV2.out, List.length_set, HX.out]; omega)) HS3.out HO3.out ?_
  refine hK.out _ _ (Q13.out _ (blk_setFar V (KQ.out.far (p := ⟨w.heap.size, 13, none⟩) (by simp; omega) _) (by omega))) (fun hHeld => ?_)
  clear hK K
  refine wpAnyH_done (by kernel_rfl) ?_ _
  clear hHeld
  refine fin (fun W => Blk W w.heap.size 44 X'.toArray ∧ Blk W (w.heap.size + 1) 44 Z24.toArray ∧ Below w.heap.size w W) ⟨Hs.out ▸ blk_setCells V (Blk.drew K1.out) (by rw [HV2.out, List.length_set, HX.out]; omega), blk_setFar V (Blk.drew (KR.out.far (p := ⟨w.heap.size, 13, none⟩) (by simp) _)) (by omega), below_setCells V (bdrewn (HB.out.setCell (p := ⟨w.heap.size, 13, none⟩) (Nat.le_refl _) _)) (Nat.le_refl _)⟩ ?_
  rintro W2 ⟨kp, kr, hb⟩
  have KP2 := Lib.hid kp
  have KR2 := Lib.hid kr
  have HB2 := Lib.hid hb
  clear kp kr hb KP KR HB KQ
  go_wp2_with (first | refine wpList_store_mid rfl 44 (.tmp 3) (.tmp 10) rfl (w.heap.size + 1) 0 X'.toArray rfl rfl (blk_there KR2.out HZ.out) HS'.out HO.out ?_ | refine wpList_load_mid rfl 44 (.tmp 2) rfl w.heap.size 0 rfl X' _ (blk_whole KP2.out) Tryz.underlying44 rfl HS.out ?_)
  have KW := Lib.hid (splice_all HZ3.out ▸ blk_setCells X' KR2.out HZ2.out)
  refine fin (fun W => Blk W (w.heap.size + 1) 44 X'.toArray ∧ Below w.heap.size w W) ⟨KW.out, below_setCells _ HB2.out (by omega)⟩ ?_
  rintro W ⟨kr, hb⟩
  have hl := run_loadVar_mid W (w.heap.size + 1) 0 44 X' _ (blk_whole kr) Tryz.underlying44 rfl HS.out
  simp only [Act.put, List.setIfInBounds_toArray]
  exact bodyPost_ret (v := .agg X'.toArray) (results_cell Tryz.results159 rfl hl) rfl ⟨rfl, hb⟩

set_option maxHeartbeats 2000000 in
set_option maxRecDepth 100000 in
theorem cl_paint (X Y X' : List Value) (g : Nat) (p2 a2 : Int) (c2 : Bool) (x20 x21 x22 : Value) (hx20 : X[20]? = some x20) (hx21 : X[21]? = some x21) (hx22 : X[22]? = some x22) (hy20 : Y[20]? = some (.int .i64 p2)) (hy21 : Y[21]? = some (.int .i64 a2)) (hy22 : Y[22]? = some (.bool c2)) (hs : ((X.set 20 (.int .i64 p2)).set 21 (.int .i64 a2)).set 22 (.bool c2) = X') (w : World) (kq : Blk w g 44 Y.toArray) (hX : X.length = 24) (hX' : X'.length = 24) (ho : X'.toArray.all (·.oneCell') = true) :
    Calls Tryz.prog 160 #[.agg X.toArray, .pointer (some ⟨g, 0, none⟩)] w fun e w' => e = .returned (.agg X'.toArray) ∧ Below w.heap.size w w' := by
  have HO := Lib.hid ho
  have HS : Hid ((Tryz.prog.info? 44).map (·.size) = some X'.length) := Lib.hid (by rw [hX']; kernel_rfl)
  have HS' : Hid ((Tryz.prog.info? 44).map (·.size) = some X'.toArray.size) := Lib.hid (by rw [List.size_toArray, hX']; kernel_rfl)
  have HZ : Hid (0 + X'.toArray.size ≤ Z24.length) := Lib.hid (by rw [List.size_toArray, hX']; exact Nat.le_refl 24)
  have HZ2 : Hid (0 + X'.length ≤ Z24.length) := Lib.hid (by rw [hX']; exact Nat.le_refl 24)
  have HZ3 : Hid (X'.length = Z24.length) := Lib.hid (by rw [hX']; rfl)
  have HX := Lib.hid hX
  have Hs := Lib.hid hs
  clear hs
  have KQ0 := Lib.hid kq
  have hg := kq.lt
  clear ho hX hX' kq
  go_enter Tryz.func160, Tryz.ntmps160
  go_wp2_with fail
  refine fin (fun W => Blk W w.heap.size 44 X.toArray ∧ Blk W (w.heap.size + 1) 44 Z24.toArray ∧ Blk W g 44 Y.toArray ∧ Below w.heap.size w W) ⟨(Blk.new w 44 X.toArray).alloc (.cells Z24.toArray 44), blkAt (Blk.new (w.alloc (.cells X.toArray 44)) 44 Z24.toArray) (by simp), (KQ0.out.alloc _).alloc _, balloc (alloc_below _ _) _⟩ ?_
  rintro W ⟨kp, kr, kq, hb⟩
  have KP := Lib.hid kp
  have KR := Lib.hid kr
  have KQ := Lib.hid kq
  have HB := Lib.hid hb
  clear kp kr hb kq KQ0
  have q20 : ∀ u, Blk u g 44 Y.toArray → u.cell? ⟨g, 20, none⟩ = some (.int .i64 p2) ∧ u.cell? ⟨g, 21, none⟩ = some (.int .i64 a2) ∧ u.cell? ⟨g, 22, none⟩ = some (.bool c2) := fun _ k => ⟨by rw [k.cell 20]; simpa using hy20, by rw [k.cell 21]; simpa using hy21, by rw [k.cell 22]; simpa using hy22⟩
  have Q20 := Lib.hid q20
  clear q20
  have p20 : W.cell? ⟨w.heap.size, 20, none⟩ = some x20 := by rw [KP.out.cell 20]; simpa using hx20
  have f20 : W.frozen? ⟨w.heap.size, 20, none⟩ = false := KP.out.frozen 20
  have K1 := Lib.hid (show Blk (W.setCell ⟨w.heap.size, 20, none⟩ (.int .i64 p2)) w.heap.size 44 (X.set 20 (.int .i64 p2)).toArray by have := KP.out.set_ 20 (.int .i64 p2); simpa using this)
  have p21 : (W.setCell ⟨w.heap.size, 20, none⟩ (.int .i64 p2)).cell? ⟨w.heap.size, 21, none⟩ = some x21 := by rw [K1.out.cell 21]; simpa using hx21
  have f21 : (W.setCell ⟨w.heap.size, 20, none⟩ (.int .i64 p2)).frozen? ⟨w.heap.size, 21, none⟩ = false := K1.out.frozen 21
  have K2 := Lib.hid (show Blk ((W.setCell ⟨w.heap.size, 20, none⟩ (.int .i64 p2)).setCell ⟨w.heap.size, 21, none⟩ (.int .i64 a2)) w.heap.size 44 ((X.set 20 (.int .i64 p2)).set 21 (.int .i64 a2)).toArray by have := K1.out.set_ 21 (.int .i64 a2); simpa using this)
  have p22 : ((W.setCell ⟨w.heap.size, 20, none⟩ (.int .i64 p2)).setCell ⟨w.heap.size, 21, none⟩ (.int .i64 a2)).cell? ⟨w.heap.size, 22, none⟩ = some x22 := by rw [K2.out.cell 22]; simpa using hx22
  have f22 : ((W.setCell ⟨w.heap.size, 20, none⟩ (.int .i64 p2)).setCell ⟨w.heap.size, 21, none⟩ (.int .i64 a2)).frozen? ⟨w.heap.size, 22, none⟩ = false := K2.out.frozen 22
  have K3 := Lib.hid (show Blk (((W.setCell ⟨w.heap.size, 20, none⟩ (.int .i64 p2)).setCell ⟨w.heap.size, 21, none⟩ (.int .i64 a2)).setCell ⟨w.heap.size, 22, none⟩ (.bool c2)) w.heap.size 44 (((X.set 20 (.int .i64 p2)).set 21 (.int .i64 a2)).set 22 (.bool c2)).toArray by have := K2.out.set_ 22 (.bool c2); simpa using this)
  go_wp2_with fail
  refine wp_region_held_drew (S := fun w' => w'.cell? ⟨g, 20, none⟩ = some (.int .i64 p2) ∧ w'.cell? ⟨g, 21, none⟩ = some (.int .i64 a2) ∧ w'.cell? ⟨g, 22, none⟩ = some (.bool c2)) (by kernel_rfl) (Q20.out _ KQ.out) (fun hHeld => ?_)
  refine wpAnyH_take (i := 0) (v := ?_) rfl (by kernel_rfl) (by kernel_rfl) (by kernel_rfl) (fun _ _ _ h => h) (Or.inl ⟨by rfl, ?_⟩) hHeld ?_
  rotate_left
  · intro w hSw
    obtain ⟨s1, s2, s3⟩ := hSw
    go_simp
    with_reducible rfl
  simp only [Act.put, List.getElem_toArray, List.getElem_cons_zero, List.setIfInBounds_toArray, List.set_cons_zero, List.set_cons_succ]
  refine wpAnyH_take (i := 1) (v := ?_) rfl (by kernel_rfl) (by kernel_rfl) (by kernel_rfl) (fun _ _ _ h => h) (Or.inl ⟨by rfl, ?_⟩) hHeld ?_
  rotate_left
  · intro w hSw
    obtain ⟨s1, s2, s3⟩ := hSw
    go_simp
    with_reducible rfl
  simp only [Act.put, List.getElem_toArray, List.getElem_cons_zero, List.getElem_cons_succ, List.setIfInBounds_toArray, List.set_cons_zero, List.set_cons_succ]
  refine wpAnyH_take (i := 2) (v := ?_) rfl (by kernel_rfl) (by kernel_rfl) (by kernel_rfl) (fun _ _ _ h => h) (Or.inl ⟨by rfl, ?_⟩) hHeld ?_
  rotate_left
  · intro w hSw
    obtain ⟨s1, s2, s3⟩ := hSw
    go_simp
    with_reducible rfl
  simp only [Act.put, List.getElem_toArray, List.getElem_cons_zero, List.getElem_cons_succ, List.setIfInBounds_toArray, List.set_cons_zero, List.set_cons_succ]
  refine wpAnyH_take (i := 3) (v := ?_) rfl (by kernel_rfl) (by kernel_rfl) (by kernel_rfl) (fun _ _ _ h => h) (Or.inl ⟨by rfl, ?_⟩) hHeld ?_
  rotate_left
  · intro w hSw
    obtain ⟨s1, s2, s3⟩ := hSw
    go_simp
    with_reducible rfl
  simp only [Act.put, List.getElem_toArray, List.getElem_cons_zero, List.getElem_cons_succ, List.setIfInBounds_toArray, List.set_cons_zero, List.set_cons_succ]
  refine wpAnyH_take (i := 4) (v := ?_) rfl (by kernel_rfl) (by kernel_rfl) (by kernel_rfl) (fun _ _ _ h => h) (Or.inl ⟨by rfl, ?_⟩) hHeld ?_
  rotate_left
  · intro w hSw
    obtain ⟨s1, s2, s3⟩ := hSw
    go_simp
    with_reducible rfl
  simp only [Act.put, List.getElem_toArray, List.getElem_cons_zero, List.getElem_cons_succ, List.setIfInBounds_toArray, List.set_cons_zero, List.set_cons_succ]
  refine wpAnyH_take (i := 5) (v := ?_) rfl (by kernel_rfl) (by kernel_rfl) (by kernel_rfl) (fun _ _ _ h => h) (Or.inl ⟨by rfl, ?_⟩) hHeld ?_
  rotate_left
  · intro w hSw
    obtain ⟨s1, s2, s3⟩ := hSw
    go_simp
    with_reducible rfl
  simp only [Act.put, List.getElem_toArray, List.getElem_cons_zero, List.getElem_cons_succ, List.setIfInBounds_toArray, List.set_cons_zero, List.set_cons_succ]
  refine wpAnyH_take (i := 6) (v := ?_) rfl (by kernel_rfl) (by kernel_rfl) (by kernel_rfl) (fun _ _ _ h => h) (Or.inl ⟨by rfl, ?_⟩) hHeld ?_
  rotate_left
  · intro w hSw
    obtain ⟨s1, s2, s3⟩ := hSw
    go_simp
    with_reducible rfl
  simp only [Act.put, List.getElem_toArray, List.getElem_cons_zero, List.getElem_cons_succ, List.setIfInBounds_toArray, List.set_cons_zero, List.set_cons_succ]
  refine wpAnyH_ready (rs := [7]) (by kernel_rfl) (by simp) ?_
  refine AllReadyH.cons rfl (fun K hK => ?_) AllReadyH.nil
  go_simp
  refine hK.out _ _ (Q20.out _ (KQ.out.far (p := ⟨w.heap.size, 20, none⟩) (by simp; omega) _)) (fun hHeld => ?_)
  clear hK K
  refine wpAnyH_take (i := 8) (v := ?_) rfl (by kernel_rfl) (by kernel_rfl) (by kernel_rfl) (fun _ _ _ h => h) (Or.inl ⟨by rfl, ?_⟩) hHeld ?_
  rotate_left
  · intro w hSw
    obtain ⟨s1, s2, s3⟩ := hSw
    go_simp
    with_reducible rfl
  simp only [Act.put, List.getElem_toArray, List.getElem_cons_zero, List.getElem_cons_succ, List.setIfInBounds_toArray, List.set_cons_zero, List.set_cons_succ]
  refine wpAnyH_ready (rs := [9]) (by kernel_rfl) (by simp) ?_
  refine AllReadyH.cons rfl (fun K hK => ?_) AllReadyH.nil
  go_simp
  refine hK.out _ _ (Q20.out _ ((KQ.out.far (p := ⟨w.heap.size, 20, none⟩) (by simp; omega) _).far (p := ⟨w.heap.size, 21, none⟩) (by simp; omega) _)) (fun hHeld => ?_)
  clear hK K
  refine wpAnyH_take (i := 10) (v := ?_) rfl (by kernel_rfl) (by kernel_rfl) (by kernel_rfl) (fun _ _ _ h => h) (Or.inl ⟨by rfl, ?_⟩) hHeld ?_
  rotate_left
  · intro w hSw
    obtain ⟨s1, s2, s3⟩ := hSw
    go_simp
    with_reducible rfl
  simp only [Act.put, List.getElem_toArray, List.getElem_cons_zero, List.getElem_cons_succ, List.setIfInBounds_toArray, List.set_cons_zero, List.set_cons_succ]
  refine wpAnyH_ready (rs := [11]) (by kernel_rfl) (by simp) ?_
  refine AllReadyH.cons rfl (fun K hK => ?_) AllReadyH.nil
  go_simp
  refine hK.out _ _ (Q20.out _ (((KQ.out.far (p := ⟨w.heap.size, 20, none⟩) (by simp; omega) _).far (p := ⟨w.heap.size, 21, none⟩) (by simp; omega) _).far (p := ⟨w.heap.size, 22, none⟩) (by simp; omega) _)) (fun hHeld => ?_)
  clear hK K
  refine wpAnyH_done (by kernel_rfl) ?_ _
  clear hHeld
  refine fin (fun W => Blk W w.heap.size 44 X'.toArray ∧ Blk W (w.heap.size + 1) 44 Z24.toArray ∧ Below w.heap.size w W) ⟨Hs.out ▸ Blk.drew (Blk.drew (Blk.drew (Blk.drew K3.out))), Blk.drew (Blk.drew (Blk.drew (Blk.drew (((KR.out.far (p := ⟨w.heap.size, 20, none⟩) (by simp) _).far (p := ⟨w.heap.size, 21, none⟩) (by simp) _).far (p := ⟨w.heap.size, 22, none⟩) (by simp) _)))), bdrewn (((HB.out.setCell (p := ⟨w.heap.size, 20, none⟩) (Nat.le_refl _) _).setCell (p := ⟨w.heap.size, 21, none⟩) (Nat.le_refl _) _).setCell (p := ⟨w.heap.size, 22, none⟩) (Nat.le_refl _) _)⟩ ?_
  rintro W2 ⟨kp, kr, hb⟩
  have KP2 := Lib.hid kp
  have KR2 := Lib.hid kr
  have HB2 := Lib.hid hb
  clear kp kr hb KP KR HB KQ
  go_wp2_with (first | refine wpList_store_mid rfl 44 (.tmp 3) (.tmp 13) rfl (w.heap.size + 1) 0 X'.toArray rfl rfl (blk_there KR2.out HZ.out) HS'.out HO.out ?_ | refine wpList_load_mid rfl 44 (.tmp 2) rfl w.heap.size 0 rfl X' _ (blk_whole KP2.out) Tryz.underlying44 rfl HS.out ?_)
  have KW := Lib.hid (splice_all HZ3.out ▸ blk_setCells X' KR2.out HZ2.out)
  refine fin (fun W => Blk W (w.heap.size + 1) 44 X'.toArray ∧ Below w.heap.size w W) ⟨KW.out, below_setCells _ HB2.out (by omega)⟩ ?_
  rintro W ⟨kr, hb⟩
  have hl := run_loadVar_mid W (w.heap.size + 1) 0 44 X' _ (blk_whole kr) Tryz.underlying44 rfl HS.out
  simp only [Act.put, List.setIfInBounds_toArray]
  exact bodyPost_ret (v := .agg X'.toArray) (results_cell Tryz.results160 rfl hl) rfl ⟨rfl, hb⟩

/-! all of them, by their kinds -/
def capOf (g : Nat) (k : Int) : Array Value := if k = 4 then #[] else #[.pointer (some ⟨g, 0, none⟩)]
def clOf (k : Int) : Nat := if k = 0 then 158 else if k = 1 then 159 else if k = 2 then 160 else if k = 3 then 161 else 162
theorem enters_cl1 : Enters 158 := fun _ _ => by kernel_rfl
theorem enters_cl2 : Enters 159 := fun _ _ => by kernel_rfl
theorem enters_cl3 : Enters 160 := fun _ _ => by kernel_rfl
theorem enters_cl4 : Enters 161 := fun _ _ => by kernel_rfl
theorem enters_cl5 : Enters 162 := fun _ _ => by kernel_rfl
theorem cl_enters {k : Int} (hk : kOk k = true) : Enters (clOf k) := by
  have e : ∀ j : Int, clOf j = (if j = 0 then 158 else if j = 1 then 159 else if j = 2 then 160 else if j = 3 then 161 else 162) := fun _ => rfl
  rcases kOk_cases hk with rfl | rfl | rfl | rfl | rfl
  · rw [e, if_pos (by omega)]; exact enters_cl1
  · rw [e, if_neg (by omega), if_pos (by omega)]; exact enters_cl2
  · rw [e, if_neg (by omega), if_neg (by omega), if_pos (by omega)]; exact enters_cl3
  · rw [e, if_neg (by omega), if_neg (by omega), if_neg (by omega), if_pos (by omega)]; exact enters_cl4
  · rw [e, if_neg (by omega), if_neg (by omega), if_neg (by omega), if_neg (by omega)]; exact enters_cl5
theorem cl_any {k : Int} (hk : kOk k = true) (g : Nat) (P Q : PT) (w : World) (kq : Blk w g 44 (pl Q).toArray) :
    Calls Tryz.prog (clOf k) (#[.agg (pl P).toArray] ++ capOf g k) w fun e w' => e = .returned (.agg (pl (layT k P Q)).toArray) ∧ Below w.heap.size w w' := by
  obtain ⟨h, M, m, B, p, a, c, l⟩ := P
  obtain ⟨h2, N, m2, B2, p2, a2, c2, l2⟩ := Q
  rcases kOk_cases hk with rfl | rfl | rfl | rfl | rfl
  · exact cl_place _ _ (PL h N m B p a c l) g _ rfl rfl (all_oneCell_toArray (fun v hv => by
      have e : ((PL h2 N m2 B2 p2 a2 c2 l2).drop 1).take 12 = [.int .i64 (N 0), .int .i64 (N 1), .int .i64 (N 2), .int .i64 (N 3), .int .i64 (N 4), .int .i64 (N 5), .int .i64 (N 6), .int .i64 (N 7), .int .i64 (N 8), .int .i64 (N 9), .int .i64 (N 10), .int .i64 (N 11)] := rfl
      have hv : v ∈ [.int .i64 (N 0), .int .i64 (N 1), .int .i64 (N 2), .int .i64 (N 3), .int .i64 (N 4), .int .i64 (N 5), .int .i64 (N 6), .int .i64 (N 7), .int .i64 (N 8), .int .i64 (N 9), .int .i64 (N 10), .int .i64 (N 11)] := hv
      simp only [List.mem_cons, List.not_mem_nil, or_false] at hv
      rcases hv with rfl | rfl | rfl | rfl | rfl | rfl | rfl | rfl | rfl | rfl | rfl | rfl <;> rfl)) rfl w kq rfl rfl (PL_one _ _ _ _ _ _ _ _)
  · exact cl_shape _ _ (PL h M m2 B2 p a c l) g _ m2 (.int .i64 m) rfl rfl rfl rfl (all_oneCell_toArray (fun v hv => by
      have hv : v ∈ [.int .i64 (B2 0), .int .i64 (B2 1), .int .i64 (B2 2), .int .i64 (B2 3), .int .i64 (B2 4), .int .i64 (B2 5)] := hv
      simp only [List.mem_cons, List.not_mem_nil, or_false] at hv
      rcases hv with rfl | rfl | rfl | rfl | rfl | rfl <;> rfl)) rfl w kq rfl rfl (PL_one _ _ _ _ _ _ _ _)
  · exact cl_paint _ _ (PL h M m B p2 a2 c2 l) g p2 a2 c2 (.int .i64 p) (.int .i64 a) (.bool c) rfl rfl rfl rfl rfl rfl rfl w kq rfl rfl (PL_one _ _ _ _ _ _ _ _)
  · exact cl_layer _ _ (PL h M m B p a c l2) g l2 (.int .i64 l) rfl rfl rfl w kq rfl rfl (PL_one _ _ _ _ _ _ _ _)
  · exact cl_hide _ (PL h M m B p a c l) rfl w rfl rfl (PL_one _ _ _ _ _ _ _ _)

end Go.Proofs.YtcpgkkphibhdfaaGreat
