/-
  The live question of layer 6, whose answer is fixed.
-/
import Derived.Test.YtfekaolnmkikoaaPrtP
namespace Go.Proofs.Ytfekaolnmkikoaa
open Go.RowKit

theorem blk_store {w : World} {g t : Nat} {Z X : List Value} (k : Blk w g t Z.toArray) (h : X.length = Z.length) : Blk (w.setCells g 0 X) g t X.toArray := by
  have := blk_setCells X k (o := 0) (by omega)
  rw [splice_all h] at this
  exact this
def q6 : PT := (4, zI, 0, zI, 3, 0, true, 0)
def r6 : PT := (0, zI, 0, zI, 1, 0, false, 0)
theorem q6_with : withE zT q6 [2] = 0 ∧ withV zT q6 [2] = q6 := with_yes (by kernel_rfl)
theorem q6_out : woutE q6 [2] = 0 ∧ woutV q6 [2] = zT := by
  obtain ⟨h1, h2⟩ := wout_yes (P := q6) (ks := [2]) (by kernel_rfl)
  exact ⟨h1, h2.trans rfl⟩
theorem q6_drawn : drawnT q6 = false := by kernel_rfl
theorem r6_right : rightT r6 = false := by kernel_rfl
theorem kinds5 : kindsL 5 = [0, 2] := by decide
theorem of6 : ksV [2, 0, 2] = 5 ∧ ksE [2, 0, 2] = 0 := by decide
theorem has60 : hasAll 5 [0] = true := by decide
theorem has61 : hasAll 5 [1] = false := by decide

set_option maxHeartbeats 8000000 in
theorem alive6 (w : World) : Calls Try.prog 5 #[] w fun e w' => e = .returned (.bool true) ∧ Below w.heap.size w w' := by
  have HOf : Hid (∀ a cap w, Row w a 3 [2, 0, 2] → Calls Try.prog 6 #[.slice a 3 cap] w fun e w' => e = .returned (.tuple #[.int .i64 5, .int .i64 0]) ∧ w = w') := Lib.hid (fun a cap w row => by have := pof_any a 3 cap [2, 0, 2] w row; rw [of6.1, of6.2] at this; exact this)
  obtain ⟨X1, hX1⟩ : ∃ X, X = pl q6 := ⟨_, rfl⟩
  obtain ⟨X0, hX0⟩ : ∃ X, X = pl zT := ⟨_, rfl⟩
  have HWi : Hid (∀ a cap w, Row w a 1 [2] → Calls Try.prog 8 #[.agg #[.int .i64 0, .int .i64 0, .int .i64 0, .int .i64 0, .int .i64 0, .int .i64 0, .int .i64 0, .int .i64 0, .int .i64 0, .int .i64 0, .int .i64 0, .int .i64 0, .int .i64 0, .int .i64 0, .int .i64 0, .int .i64 0, .int .i64 0, .int .i64 0, .int .i64 0, .int .i64 0, .int .i64 0, .int .i64 0, .bool false, .int .i64 0], .agg #[.int .i64 4, .int .i64 0, .int .i64 0, .int .i64 0, .int .i64 0, .int .i64 0, .int .i64 0, .int .i64 0, .int .i64 0, .int .i64 0, .int .i64 0, .int .i64 0, .int .i64 0, .int .i64 0, .int .i64 0, .int .i64 0, .int .i64 0, .int .i64 0, .int .i64 0, .int .i64 0, .int .i64 3, .int .i64 0, .bool true, .int .i64 0], .slice a 1 cap] w fun e w' => e = .returned (.tuple #[.agg X1.toArray, .int .i64 0]) ∧ Below w.heap.size w w') := Lib.hid (fun a cap w row => by rw [hX1]; have := pwith_any zT q6 a 1 cap [2] w row; rw [q6_with.1, q6_with.2] at this; exact this)
  have HWo : Hid (∀ a cap w, Row w a 1 [2] → Calls Try.prog 10 #[.agg X1.toArray, .slice a 1 cap] w fun e w' => e = .returned (.tuple #[.agg X0.toArray, .int .i64 0]) ∧ Below w.heap.size w w') := Lib.hid (fun a cap w row => by rw [hX1, hX0]; have := pwoutT q6 a 1 cap [2] w row; rw [q6_out.1, q6_out.2] at this; exact this)
  have HKi : Hid (∀ w, Calls Try.prog 13 #[.int .i64 5] w fun e w' => ∃ a cap, e = .returned (.slice a 2 cap) ∧ Row w' a 2 [0, 2] ∧ Below w.heap.size w w') := Lib.hid (fun w => by have := pkinds_any 5 w; rw [kinds5] at this; exact this)
  have HRi : Hid (∀ w, Calls Try.prog 15 #[.agg #[.int .i64 0, .int .i64 0, .int .i64 0, .int .i64 0, .int .i64 0, .int .i64 0, .int .i64 0, .int .i64 0, .int .i64 0, .int .i64 0, .int .i64 0, .int .i64 0, .int .i64 0, .int .i64 0, .int .i64 0, .int .i64 0, .int .i64 0, .int .i64 0, .int .i64 0, .int .i64 0, .int .i64 1, .int .i64 0, .bool false, .int .i64 0]] w fun e w' => e = .returned (.bool false) ∧ Below w.heap.size w w') := Lib.hid (fun w => prightT r6_right w)
  have HDr : Hid (∀ w, Calls Try.prog 17 #[.agg X1.toArray] w fun e w' => e = .returned (.bool false) ∧ Below w.heap.size w w') := Lib.hid (fun w => by rw [hX1]; have := pdrawn_any q6 w; rw [q6_drawn] at this; exact this)
  have heq1 : ∀ w, (Op.equalIn 10000 31 (.agg X1.toArray) (.agg #[.int .i64 4, .int .i64 0, .int .i64 0, .int .i64 0, .int .i64 0, .int .i64 0, .int .i64 0, .int .i64 0, .int .i64 0, .int .i64 0, .int .i64 0, .int .i64 0, .int .i64 0, .int .i64 0, .int .i64 0, .int .i64 0, .int .i64 0, .int .i64 0, .int .i64 0, .int .i64 0, .int .i64 3, .int .i64 0, .bool true, .int .i64 0])).run Try.prog w = .ok true w := fun w => by rw [hX1]; have := eqT_run q6 q6 w; rw [eqT_self] at this; exact this
  have heq0 : ∀ w, (Op.equalIn 10000 31 (.agg X0.toArray) (.agg #[.int .i64 0, .int .i64 0, .int .i64 0, .int .i64 0, .int .i64 0, .int .i64 0, .int .i64 0, .int .i64 0, .int .i64 0, .int .i64 0, .int .i64 0, .int .i64 0, .int .i64 0, .int .i64 0, .int .i64 0, .int .i64 0, .int .i64 0, .int .i64 0, .int .i64 0, .int .i64 0, .int .i64 0, .int .i64 0, .bool false, .int .i64 0])).run Try.prog w = .ok true w := fun w => by rw [hX0]; have := eqT_run zT zT w; rw [eqT_self] at this; exact this
  have HS1 : Hid ((Try.prog.info? 31).map (·.size) = some X1.length) := Lib.hid (by rw [hX1]; exact pl_size q6)
  have HS1' : Hid ((Try.prog.info? 31).map (·.size) = some X1.toArray.size) := Lib.hid (by rw [hX1]; exact pl_size' q6)
  have HO1 : Hid (X1.toArray.all (·.oneCell') = true) := Lib.hid (by rw [hX1]; exact pl_one q6)
  have HL1 : Hid (X1.length = 24) := Lib.hid (by rw [hX1]; rfl)
  have HS0 : Hid ((Try.prog.info? 31).map (·.size) = some X0.length) := Lib.hid (by rw [hX0]; exact pl_size zT)
  have HS0' : Hid ((Try.prog.info? 31).map (·.size) = some X0.toArray.size) := Lib.hid (by rw [hX0]; exact pl_size' zT)
  have HO0 : Hid (X0.toArray.all (·.oneCell') = true) := Lib.hid (by rw [hX0]; exact pl_one zT)
  have HL0 : Hid (X0.length = 24) := Lib.hid (by rw [hX0]; rfl)
  clear hX1 hX0
  go_enter Try.func5, Try.ntmps5
  go_wp2_with fail
  refine (HOf.out _ _ _ (row3 (Blk.new _ _ _))).mono ?_
  rintro e w1 ⟨rfl, rfl⟩
  go_wp2_with fail
  refine (HWi.out _ _ _ (row1At _ _ _ _ (by simp))).mono ?_
  rintro e w2 ⟨rfl, b2⟩
  have HB := Lib.hid (bthen (balloc (alloc_below _ _) _) b2)
  clear b2
  have K0 := Lib.hid (Blk.new w2 31 (pl zT).toArray)
  have KX : Hid (Blk ((w2.alloc (.cells (pl zT).toArray 31)).setCells w2.heap.size 0 X1) w2.heap.size 31 X1.toArray) := Lib.hid (blk_store K0.out (by rw [HL1.out]; rfl))
  replace HB := Lib.hid (below_setCells X1 (balloc HB.out (.cells (pl zT).toArray 31)) (g := w2.heap.size) (o := 0) HB.out.size)
  go_wp2_with (first | refine wpList_store_mid rfl 31 (.tmp 3) (.tmp 18) rfl w2.heap.size 0 X1.toArray rfl rfl (blk_there K0.out (by rw [List.size_toArray, HL1.out]; exact Nat.le_refl 24)) HS1'.out HO1.out ?_ | refine wpList_load_mid rfl 31 (.tmp 3) rfl w2.heap.size 0 rfl X1 _ (blk_whole KX.out) Try.underlying31 rfl HS1.out ?_)
  refine (HWo.out _ _ _ (row1At _ _ _ _ (by simp))).mono ?_
  rintro e w3 ⟨rfl, b3⟩
  replace KX := Lib.hid ((KX.out.alloc _).keep b3)
  replace HB := Lib.hid (bthen (balloc HB.out _) b3)
  clear b3 K0
  have K0 := Lib.hid (Blk.new w3 31 (pl zT).toArray)
  have KY : Hid (Blk ((w3.alloc (.cells (pl zT).toArray 31)).setCells w3.heap.size 0 X0) w3.heap.size 31 X0.toArray) := Lib.hid (blk_store K0.out (by rw [HL0.out]; rfl))
  have zx : w2.heap.size < w3.heap.size := KX.out.lt
  have KX2 : Hid (Blk ((w3.alloc (.cells (pl zT).toArray 31)).setCells w3.heap.size 0 X0) w2.heap.size 31 X1.toArray) := Lib.hid (blk_setFar _ (KX.out.alloc _) (by omega))
  replace HB := Lib.hid (below_setCells X0 (balloc HB.out (.cells (pl zT).toArray 31)) (g := w3.heap.size) (o := 0) HB.out.size)
  go_wp2_with (first | refine wpList_store_mid rfl 31 (.tmp 5) (.tmp 24) rfl w3.heap.size 0 X0.toArray rfl rfl (blk_there K0.out (by rw [List.size_toArray, HL0.out]; exact Nat.le_refl 24)) HS0'.out HO0.out ?_)
  refine (HKi.out _).mono ?_
  rintro e w4 ⟨ka, kc, rfl, hrow, b4⟩
  have KX4 := Lib.hid (KX2.out.keep b4)
  have KY4 := Lib.hid (KY.out.keep b4)
  replace HB := Lib.hid (bthen HB.out b4)
  clear b4 KX KX2 KY K0 zx
  obtain ⟨kb, ko, kx, rfl, hkx, ck⟩ := row_at6 hrow (k := 1) (by omega)
  obtain rfl : kx = 2 := by simpa using hkx.symm
  clear hkx hrow
  go_wp2_with (first | refine wpList_load_g (by rfl) 31 (.tmp 3) rfl w2.heap.size 0 rfl X1 _ (blk_whole KX4.out) Try.underlying31 rfl HS1.out ?_ | refine wpList_load_g (by rfl) 31 (.tmp 5) rfl w3.heap.size 0 rfl X0 _ (blk_whole KY4.out) Try.underlying31 rfl HS0.out ?_)
  refine (phas_b has60 _ _ _ _ (row1At _ _ _ _ (by simp))).mono ?_
  rintro e w5 ⟨rfl, rfl⟩
  go_wp2_with fail
  refine (phas_b has61 _ _ _ _ (row1At _ _ _ _ (by simp))).mono ?_
  rintro e w6 ⟨rfl, rfl⟩
  go_wp2_with fail
  refine (HRi.out _).mono ?_
  rintro e w7 ⟨rfl, b7⟩
  replace KX4 := Lib.hid (((KX4.out.alloc _).alloc _).keep b7)
  replace HB := Lib.hid (bthen (balloc (balloc HB.out _) _) b7)
  clear b7 ck
  go_wp2_with (refine wpList_load_g (by rfl) 31 (.tmp 3) rfl w2.heap.size 0 rfl X1 _ (blk_whole KX4.out) Try.underlying31 rfl HS1.out ?_)
  refine (HDr.out _).mono ?_
  rintro e w8 ⟨rfl, b8⟩
  replace HB := Lib.hid (bthen HB.out b8)
  clear b8
  go_wp2
  go_ret
  exact ⟨rfl, HB.out⟩

end Go.Proofs.Ytfekaolnmkikoaa
