/-
  PartsTells answers true for every two parts, every slice of kinds and every set: package parts answers what the document says, or the error. No conditions.
-/
import Derived.Test.YtfekaolnmkikoaaRows
import Derived.Test.YtfekaolnmkikoaaPrtR
import Derived.WalkKit
import Derived.ProofKit
import Derived.OpenShut
import Derived.ShutString
import Derived.ChangeOld
import Derived.Below
import Derived.Deep.Cut
import Derived.Deep.CutRange
namespace Go.Proofs.Ytfekaolnmkikoaa.partsTells
open Go.ChangeShapes Go.WideShapes Go.ChangeAt Go.RowKit
set_option linter.unusedVariables false

theorem own : ownKnob Try.prog.godebug = none := by kernel_rfl
theorem laidOut : laidOutB Try.prog = true := by kernel_rfl

/-- what is asked of cells that are parts -/
def PX (X : List Value) : Prop := X.length = 24 ∧ (Try.prog.info? 31).map (·.size) = some X.length ∧ (Try.prog.info? 31).map (·.size) = some X.toArray.size ∧ X.toArray.all (·.oneCell') = true
theorem px (P : PT) : PX (pl P) := ⟨pl_len P, pl_size P, pl_size' P, pl_one P⟩
theorem hasAll_take {s : Int} {ks : List Int} {j : Nat} {k : Int} (h : ks[j]? = some k) : hasAll s (ks.take (j + 1)) = (hasAll s (ks.take j) && hasB s k) := by
  unfold hasAll
  rw [List.take_add_one, List.all_append, h]
  simp
theorem bdrewN {n : Nat} {w a : World} (h : Below n w a) (k : Nat) : Below n w (a.drewN k) := ⟨h.os, h.tape, h.output, h.size, h.block⟩
/-- a store of parts into a block that was just laid -/
theorem laid (w : World) {X : List Value} (h : PX X) : Below w.heap.size w ((w.alloc (.cells (pl zT).toArray 31)).setCells w.heap.size 0 X) ∧ Blk ((w.alloc (.cells (pl zT).toArray 31)).setCells w.heap.size 0 X) w.heap.size 31 X.toArray :=
  ⟨below_setCells X (alloc_below _ _) (Nat.le_refl _), blk_store (Blk.new w 31 (pl zT).toArray) h.1⟩
theorem there_new (w : World) {X : List Value} (h : PX X) : (w.alloc (.cells (pl zT).toArray 31)).there w.heap.size 0 X.toArray.size := blk_there (Blk.new w 31 (pl zT).toArray) (by rw [List.size_toArray, h.1]; exact Nat.le_refl 24)

set_option maxHeartbeats 400000 in
set_option maxRecDepth 100000 in
theorem walk_many (X : List Value) (a : Option Addr) (len cap : Nat) (s : Int) (w : World) (h : 60 < len) (hbig : len ≤ 9223372036854775807) :
    Calls Try.prog 3 #[.agg X.toArray, .slice a len cap, .int .i64 s] w fun e w' => e = .returned (.bool true) ∧ Below w.heap.size w w' := by
  go_enter Try.func3, Try.ntmps3
  go_wp2_with fail
  refine (alive6 _).mono ?_
  rintro e w1 ⟨rfl, b1⟩
  have B1 := Lib.hid (bthen (alloc_below _ _) b1)
  clear b1
  go_wp2
  go_ret
  exact ⟨rfl, B1.out⟩

set_option maxHeartbeats 8000000 in
set_option maxRecDepth 100000 in
theorem walk_few (XX Xp Xq X1 X2 : List Value) (va ea e1 e2 : Int) (rt dt : Bool) (a : Option Addr) (len cap : Nat) (ks : List Int) (s : Int) (w : World) (h : len ≤ 60) (row : Row w a len ks)
    (hp : (XX.drop 0).take 24 = Xp) (hq : (XX.drop 24).take 24 = Xq) (xp : PX Xp) (xq : PX Xq) (x1 : PX X1) (x2 : PX X2)
    (hof : ∀ w', Row w' a len ks → Calls Try.prog 6 #[.slice a len cap] w' fun e w'' => e = .returned (.tuple #[.int .i64 va, .int .i64 ea]) ∧ w' = w'')
    (hrof : ∀ w', Row w' a len ks → Calls Try.prog 7 #[.slice a len cap] w' fun e w'' => e = .returned (.tuple #[.int .i64 va, .int .i64 ea]) ∧ w' = w'')
    (hwi : ∀ w', Row w' a len ks → Calls Try.prog 8 #[.agg Xp.toArray, .agg Xq.toArray, .slice a len cap] w' fun e w'' => e = .returned (.tuple #[.agg X1.toArray, .int .i64 e1]) ∧ Below w'.heap.size w' w'')
    (hrwi : ∀ w', Row w' a len ks → Calls Try.prog 9 #[.agg Xp.toArray, .agg Xq.toArray, .slice a len cap] w' fun e w'' => e = .returned (.tuple #[.agg X1.toArray, .int .i64 e1]) ∧ Below w'.heap.size w' w'')
    (hwo : ∀ w', Row w' a len ks → Calls Try.prog 10 #[.agg Xp.toArray, .slice a len cap] w' fun e w'' => e = .returned (.tuple #[.agg X2.toArray, .int .i64 e2]) ∧ Below w'.heap.size w' w'')
    (hrwo : ∀ w', Row w' a len ks → Calls Try.prog 11 #[.agg Xp.toArray, .slice a len cap] w' fun e w'' => e = .returned (.tuple #[.agg X2.toArray, .int .i64 e2]) ∧ Below w'.heap.size w' w'')
    (hri : ∀ w', Calls Try.prog 15 #[.agg Xp.toArray] w' fun e w'' => e = .returned (.bool rt) ∧ Below w'.heap.size w' w'')
    (hrri : ∀ w', Calls Try.prog 16 #[.agg Xp.toArray] w' fun e w'' => e = .returned (.bool rt) ∧ Below w'.heap.size w' w'')
    (hdr : ∀ w', Calls Try.prog 17 #[.agg Xp.toArray] w' fun e w'' => e = .returned (.bool dt) ∧ Below w'.heap.size w' w'')
    (hrdr : ∀ w', Calls Try.prog 18 #[.agg Xp.toArray] w' fun e w'' => e = .returned (.bool dt) ∧ Below w'.heap.size w' w'')
    (hq1 : ∀ w', (Op.equalIn 10000 31 (.agg X1.toArray) (.agg X1.toArray)).run Try.prog w' = .ok true w')
    (hq2 : ∀ w', (Op.equalIn 10000 31 (.agg X2.toArray) (.agg X2.toArray)).run Try.prog w' = .ok true w') :
    Calls Try.prog 3 #[.agg XX.toArray, .slice a len cap, .int .i64 s] w fun e w' => e = .returned (.bool true) ∧ Below w.heap.size w w' := by
  have HOF := Lib.hid hof
  have HROF := Lib.hid hrof
  have HWI := Lib.hid hwi
  have HRWI := Lib.hid hrwi
  have HWO := Lib.hid hwo
  have HRWO := Lib.hid hrwo
  have HRI := Lib.hid hri
  have HRRI := Lib.hid hrri
  have HDR := Lib.hid hdr
  have HRDR := Lib.hid hrdr
  have HXP := Lib.hid xp
  have HXQ := Lib.hid xq
  have HX1 := Lib.hid x1
  have HX2 := Lib.hid x2
  have HL := Lib.hid row.1
  have HRow := Lib.hid row
  have HP2 := Lib.hid hp
  have HQ2 := Lib.hid hq
  clear row hp hq hof hrof hwi hrwi hwo hrwo hri hrri hdr hrdr xp xq x1 x2
  have HR0 : Hid ((w.alloc (.cells XX.toArray 32)).rangeAt w.heap.size 0 Xp) := Lib.hid (HP2.out ▸ blk_range (Blk.new w 32 XX.toArray) 0 24)
  have HT7 : Hid (((w.alloc (.cells XX.toArray 32)).alloc (.cells (pl zT).toArray 31)).there (w.heap.size + 1) 0 Xp.toArray.size) := Lib.hid (blk_there (blkAt (Blk.new (w.alloc (.cells XX.toArray 32)) 31 (pl zT).toArray) (by simp)) (by rw [List.size_toArray, HXP.out.1]; exact Nat.le_refl 24))
  go_enter Try.func3, Try.ntmps3
  go_upto_region 4 with (first | refine wpList_load_mid rfl 31 (.tmp 33) rfl w.heap.size 0 rfl Xp _ HR0.out Try.underlying31 rfl HXP.out.2.1 ?_ | refine wpList_store_mid rfl 31 (.tmp 7) (.tmp 34) rfl (w.heap.size + 1) 0 Xp.toArray rfl rfl (HT7.out) HXP.out.2.2.1 HXP.out.2.2.2 ?_)
  refine fin (fun W => Blk W w.heap.size 32 XX.toArray ∧ Blk W (w.heap.size + 1) 31 Xp.toArray ∧ Below w.heap.size w W) ⟨blk_setFar (g' := w.heap.size + 1) _ ((Blk.new w 32 XX.toArray).alloc _) (by omega), blk_store (blkAt (Blk.new (w.alloc (.cells XX.toArray 32)) 31 (pl zT).toArray) (by simp)) HXP.out.1, below_setCells (g := w.heap.size + 1) _ (balloc (alloc_below _ _) _) (by omega)⟩ ?_
  rintro W1 ⟨k2, k7, hb⟩
  have K2 := Lib.hid k2
  have K7 := Lib.hid k7
  have HB := Lib.hid hb
  clear k2 k7 hb HR0 HT7
  have HR1 : Hid (W1.rangeAt w.heap.size 24 Xq) := Lib.hid (HQ2.out ▸ blk_range K2.out 24 24)
  go_upto_region 5 with (first | refine wpList_load_mid rfl 31 (.tmp 35) rfl w.heap.size 24 rfl Xq _ HR1.out Try.underlying31 rfl HXQ.out.2.1 ?_ | refine wpList_store_mid rfl 31 (.tmp 8) (.tmp 36) rfl W1.heap.size 0 Xq.toArray rfl rfl (there_new W1 HXQ.out) HXQ.out.2.2.1 HXQ.out.2.2.2 ?_)
  refine fin (fun W => Blk W (w.heap.size + 1) 31 Xp.toArray ∧ Blk W W1.heap.size 31 Xq.toArray ∧ Below w.heap.size w W) ⟨K7.out.keep (laid W1 HXQ.out).1, (laid W1 HXQ.out).2, bthen HB.out (laid W1 HXQ.out).1⟩ ?_
  clear K2 K7 HB HR1
  rintro W2 ⟨k7, k8, hb⟩
  have K7 := Lib.hid k7
  have K8 := Lib.hid k8
  have HB := Lib.hid hb
  clear k7 k8 hb
  go_wp2_with fail
  refine (HOF.out _ (row_keep HRow.out HB.out)).mono ?_
  rintro e y1 ⟨rfl, rfl⟩
  go_wp2_with fail
  refine (HROF.out _ (row_keep HRow.out HB.out)).mono ?_
  rintro e y2 ⟨rfl, rfl⟩
  go_wp2_with (first | refine wpList_load_mid rfl 31 (.tmp 7) rfl (w.heap.size + 1) 0 rfl Xp _ (blk_whole K7.out) Try.underlying31 rfl HXP.out.2.1 ?_ | refine wpList_load_mid rfl 31 (.tmp 8) rfl W1.heap.size 0 rfl Xq _ (blk_whole K8.out) Try.underlying31 rfl HXQ.out.2.1 ?_)
  refine (HWI.out _ (row_keep HRow.out HB.out)).mono ?_
  rintro e y3 ⟨rfl, b1⟩
  replace K7 := Lib.hid (K7.out.keep b1)
  replace K8 := Lib.hid (K8.out.keep b1)
  replace HB := Lib.hid (bthen HB.out b1)
  clear b1
  go_upto_region 8 with (refine wpList_store_mid rfl 31 (.tmp 13) (.tmp 52) rfl y3.heap.size 0 X1.toArray rfl rfl (there_new y3 HX1.out) HX1.out.2.2.1 HX1.out.2.2.2 ?_)
  refine fin (fun W => Blk W (w.heap.size + 1) 31 Xp.toArray ∧ Blk W W1.heap.size 31 Xq.toArray ∧ Blk W y3.heap.size 31 X1.toArray ∧ Below w.heap.size w W) ⟨K7.out.keep (laid y3 HX1.out).1, K8.out.keep (laid y3 HX1.out).1, (laid y3 HX1.out).2, bthen HB.out (laid y3 HX1.out).1⟩ ?_
  clear K7 K8 HB
  rintro Y3 ⟨k7, k8, k13, hb⟩
  have K7 := Lib.hid k7
  have K8 := Lib.hid k8
  have K13 := Lib.hid k13
  have HB := Lib.hid hb
  clear k7 k8 k13 hb
  go_wp2_with (first | refine wpList_load_mid rfl 31 (.tmp 7) rfl (w.heap.size + 1) 0 rfl Xp _ (blk_whole K7.out) Try.underlying31 rfl HXP.out.2.1 ?_ | refine wpList_load_mid rfl 31 (.tmp 8) rfl W1.heap.size 0 rfl Xq _ (blk_whole K8.out) Try.underlying31 rfl HXQ.out.2.1 ?_)
  refine (HRWI.out _ (row_keep HRow.out HB.out)).mono ?_
  rintro e y4 ⟨rfl, b1⟩
  replace K7 := Lib.hid (K7.out.keep b1)
  replace K8 := Lib.hid (K8.out.keep b1)
  replace K13 := Lib.hid (K13.out.keep b1)
  replace HB := Lib.hid (bthen HB.out b1)
  clear b1
  go_upto_region 9 with (refine wpList_store_mid rfl 31 (.tmp 15) (.tmp 59) rfl y4.heap.size 0 X1.toArray rfl rfl (there_new y4 HX1.out) HX1.out.2.2.1 HX1.out.2.2.2 ?_)
  refine fin (fun W => Blk W (w.heap.size + 1) 31 Xp.toArray ∧ Blk W W1.heap.size 31 Xq.toArray ∧ Blk W y3.heap.size 31 X1.toArray ∧ Blk W y4.heap.size 31 X1.toArray ∧ Below w.heap.size w W) ⟨K7.out.keep (laid y4 HX1.out).1, K8.out.keep (laid y4 HX1.out).1, K13.out.keep (laid y4 HX1.out).1, (laid y4 HX1.out).2, bthen HB.out (laid y4 HX1.out).1⟩ ?_
  clear K7 K8 K13 HB
  rintro Y4 ⟨k7, k8, k13, k15, hb⟩
  have K7 := Lib.hid k7
  have K8 := Lib.hid k8
  have K13 := Lib.hid k13
  have K15 := Lib.hid k15
  have HB := Lib.hid hb
  clear k7 k8 k13 k15 hb
  go_wp2_with (first | refine wpList_load_mid rfl 31 (.tmp 7) rfl (w.heap.size + 1) 0 rfl Xp _ (blk_whole K7.out) Try.underlying31 rfl HXP.out.2.1 ?_)
  refine (HWO.out _ (row_keep HRow.out HB.out)).mono ?_
  rintro e y5 ⟨rfl, b1⟩
  replace K7 := Lib.hid (K7.out.keep b1)
  replace K8 := Lib.hid (K8.out.keep b1)
  replace K13 := Lib.hid (K13.out.keep b1)
  replace K15 := Lib.hid (K15.out.keep b1)
  replace HB := Lib.hid (bthen HB.out b1)
  clear b1
  go_upto_region 10 with (refine wpList_store_mid rfl 31 (.tmp 17) (.tmp 65) rfl y5.heap.size 0 X2.toArray rfl rfl (there_new y5 HX2.out) HX2.out.2.2.1 HX2.out.2.2.2 ?_)
  refine fin (fun W => Blk W (w.heap.size + 1) 31 Xp.toArray ∧ Blk W W1.heap.size 31 Xq.toArray ∧ Blk W y3.heap.size 31 X1.toArray ∧ Blk W y4.heap.size 31 X1.toArray ∧ Blk W y5.heap.size 31 X2.toArray ∧ Below w.heap.size w W) ⟨K7.out.keep (laid y5 HX2.out).1, K8.out.keep (laid y5 HX2.out).1, K13.out.keep (laid y5 HX2.out).1, K15.out.keep (laid y5 HX2.out).1, (laid y5 HX2.out).2, bthen HB.out (laid y5 HX2.out).1⟩ ?_
  clear K7 K8 K13 K15 HB
  rintro Y5 ⟨k7, k8, k13, k15, k17, hb⟩
  have K7 := Lib.hid k7
  have K8 := Lib.hid k8
  have K13 := Lib.hid k13
  have K15 := Lib.hid k15
  have K17 := Lib.hid k17
  have HB := Lib.hid hb
  clear k7 k8 k13 k15 k17 hb
  go_wp2_with (first | refine wpList_load_mid rfl 31 (.tmp 7) rfl (w.heap.size + 1) 0 rfl Xp _ (blk_whole K7.out) Try.underlying31 rfl HXP.out.2.1 ?_)
  refine (HRWO.out _ (row_keep HRow.out HB.out)).mono ?_
  rintro e y6 ⟨rfl, b1⟩
  replace K7 := Lib.hid (K7.out.keep b1)
  replace K8 := Lib.hid (K8.out.keep b1)
  replace K13 := Lib.hid (K13.out.keep b1)
  replace K15 := Lib.hid (K15.out.keep b1)
  replace K17 := Lib.hid (K17.out.keep b1)
  replace HB := Lib.hid (bthen HB.out b1)
  clear b1
  go_upto_region 11 with (refine wpList_store_mid rfl 31 (.tmp 19) (.tmp 71) rfl y6.heap.size 0 X2.toArray rfl rfl (there_new y6 HX2.out) HX2.out.2.2.1 HX2.out.2.2.2 ?_)
  refine fin (fun W => Blk W (w.heap.size + 1) 31 Xp.toArray ∧ Blk W W1.heap.size 31 Xq.toArray ∧ Blk W y3.heap.size 31 X1.toArray ∧ Blk W y4.heap.size 31 X1.toArray ∧ Blk W y5.heap.size 31 X2.toArray ∧ Blk W y6.heap.size 31 X2.toArray ∧ Below w.heap.size w W) ⟨K7.out.keep (laid y6 HX2.out).1, K8.out.keep (laid y6 HX2.out).1, K13.out.keep (laid y6 HX2.out).1, K15.out.keep (laid y6 HX2.out).1, K17.out.keep (laid y6 HX2.out).1, (laid y6 HX2.out).2, bthen HB.out (laid y6 HX2.out).1⟩ ?_
  clear K7 K8 K13 K15 K17 HB
  rintro Y6 ⟨k7, k8, k13, k15, k17, k19, hb⟩
  have K7 := Lib.hid k7
  have K8 := Lib.hid k8
  have K13 := Lib.hid k13
  have K15 := Lib.hid k15
  have K17 := Lib.hid k17
  have K19 := Lib.hid k19
  have HB := Lib.hid hb
  clear k7 k8 k13 k15 k17 k19 hb
  go_wp2_with (first | refine wpList_load_g (by rfl) 31 (.tmp 13) rfl y3.heap.size 0 rfl X1 _ (blk_whole K13.out) Try.underlying31 rfl HX1.out.2.1 ?_ | refine wpList_load_g (by rfl) 31 (.tmp 15) rfl y4.heap.size 0 rfl X1 _ (blk_whole K15.out) Try.underlying31 rfl HX1.out.2.1 ?_ | refine wpList_load_g (by rfl) 31 (.tmp 17) rfl y5.heap.size 0 rfl X2 _ (blk_whole K17.out) Try.underlying31 rfl HX2.out.2.1 ?_ | refine wpList_load_g (by rfl) 31 (.tmp 19) rfl y6.heap.size 0 rfl X2 _ (blk_whole K19.out) Try.underlying31 rfl HX2.out.2.1 ?_)
  clear K13 K15 K17 K19 K8 HOF HROF HWI HRWI HWO HRWO hq1 hq2
  go_loopw [21, 22] (fun v i wr => ∃ k : Nat, k ≤ len ∧ i = .int .i64 k ∧ v = .bool (hasAll s (ks.take k)) ∧ wr = Y6) (fun _ i _ => len - (intOf i).toNat)
  case atStart => exact ⟨0, by omega, rfl, rfl, rfl⟩
  case round =>
    obtain ⟨k, hk, rfl, rfl, rfl⟩ := hrel
    by_cases hlt : k < len
    · obtain ⟨b, off, x, rfl, hv, c0⟩ := row_at6 (row_keep HRow.out HB.out) hlt
      have HV := Lib.hid (hasAll_take (s := s) hv)
      clear hv
      have hk0 : (0 : Int) ≤ (k : Int) := by omega
      have hk1 : (k : Int) < (len : Int) := by omega
      go_wp2_with fail
      refine (rhas_any s x _).mono ?_
      rintro e y7 ⟨rfl, rfl⟩
      obtain ⟨u, hu⟩ : ∃ u, u = hasAll s (ks.take k) := ⟨_, rfl⟩
      obtain ⟨v, hv⟩ : ∃ v, v = hasB s x := ⟨_, rfl⟩
      rw [← hu, ← hv] at HV
      rw [← hu, ← hv]
      clear hu hv
      cases u
      · go_wp2
        go_roundw
        case rel => exact ⟨k + 1, by omega, by go_num, by rw [HV.out]; rfl, by trivial⟩
        case measure => simp [intOf] <;> omega
      · go_wp2
        go_roundw
        case rel => exact ⟨k + 1, by omega, by go_num, by rw [HV.out]; rfl, by trivial⟩
        case measure => simp [intOf] <;> omega
    · obtain ⟨U, hU⟩ : ∃ U, U = wr := ⟨_, rfl⟩
      subst hU
      obtain rfl : k = len := by omega
      have et : ks.take k = ks := List.take_of_length_le (by rw [HL.out]; exact Nat.le_refl _)
      rw [et]
      clear et
      obtain ⟨hv, hhv⟩ : ∃ b, hasAll s ks = b := ⟨_, rfl⟩
      rw [hhv]
      have HHas := Lib.hid hhv
      clear hhv
      obtain ⟨i0, hi0, hz0, hz1, hz2⟩ := info_parts kind_info
      have HI := Lib.hid (And.intro hi0 (And.intro hz0 (And.intro hz1 hz2)))
      clear hi0 hz0 hz1 hz2
      go_wp2
      go_loopw [24, 25] (fun v i wz => ∃ k : Nat, k ≤ 5 ∧ i = .int .i64 k ∧ OwnK wz U.heap.size v (kindsTo s k).length (kindsTo s k) ∧ Below U.heap.size U wz) (fun _ i _ => 5 - (intOf i).toNat)
      case atStart => exact ⟨0, by omega, rfl, OwnK.nil _ _, Below.refl _ _⟩
      case round =>
        obtain ⟨k, hk, rfl, hown, hb⟩ := hrel
        have HOwn := Lib.hid hown
        have HZ := Lib.hid hb
        clear hown hb
        by_cases hlt : k < 5
        · have hk0 : (0 : Int) ≤ (k : Int) := by omega
          have hk1 : (k : Int) ≤ 4 := by omega
          have hle := kindsTo_len s k
          cases hL : hasB s (k : Int) with
          | true =>
            have HA := Lib.hid (kindsTo_yes hL)
            have HHk := Lib.hid hL
            clear hL
            obtain ⟨n, hn⟩ : ∃ n, n = (kindsTo s k).length := ⟨_, rfl⟩
            rw [← hn] at HOwn hle
            have HN := Lib.hid hn
            clear hn
            have hsz : U.heap.size ≤ wr.heap.size := HZ.out.size
            go_wp2_with fail
            refine (rhas_b HHk.out _).mono ?_
            rintro e w1 ⟨rfl, rfl⟩
            go_wp2_with (at_builtin; refine wpList_append_own _ rfl (.tmp 125) (.tmp 127) 33 rfl U.heap.size 45 i0 (.int .i64 0) 1 8 Try.underlying33 HI.out.1 HI.out.2.1 HI.out.2.2.1 HI.out.2.2.2 rfl (by decide) _ _ _ rfl (HOwn.out.alloc _) ⟨wr.heap.size, 0, none⟩ 1 1 [.int .i64 (k : Int)] rfl rfl (cell_one_new _ _ _) (by intro u hu; simp at hu; subst hu; rfl) (by unfold maxLen; omega) (by omega) (by simp; omega) ?_)
            intro v' w2 hown' hgrow _
            have HOwn' := Lib.hid hown'
            have HGr := Lib.hid hgrow
            clear hown' hgrow
            go_wp2
            go_roundw
            case rel =>
              have el : (kindsTo s (k + 1)).length = n + 1 := by rw [HA.out, List.length_append, ← HN.out]; rfl
              refine ⟨k + 1, by omega, by go_num, ?_, grownK_below HOwn.out (Nat.le_refl _) HZ.out hsz HGr.out⟩
              rw [el]
              unfold OwnK
              rw [HA.out, List.map_append]
              exact HOwn'.out
            case measure => simp [intOf] <;> omega
          | false =>
            have HA := Lib.hid (kindsTo_no hL)
            have HHk := Lib.hid hL
            clear hL
            go_wp2_with fail
            refine (rhas_b HHk.out _).mono ?_
            rintro e w1 ⟨rfl, rfl⟩
            go_wp2
            go_roundw
            case rel => exact ⟨k + 1, by omega, by go_num, by rw [HA.out]; exact HOwn.out, HZ.out⟩
            case measure => simp [intOf] <;> omega
        · obtain rfl : k = 5 := by omega
          rw [kindsTo_all] at HOwn
          obtain ⟨a3, c3, rfl, hr3⟩ := HOwn.out.row
          have HR3 := Lib.hid hr3
          clear hr3 HOwn HI hlt hk
          replace K7 := Lib.hid (K7.out.keep HZ.out)
          replace HB := Lib.hid (bthen HB.out HZ.out)
          clear HZ
          go_wp2_with fail
          refine (pkinds_any s _).mono ?_
          rintro e w3 ⟨a4, c4, rfl, hr4, b4⟩
          have HR4 := Lib.hid hr4
          replace HR3 := Lib.hid (row_keep HR3.out b4)
          replace K7 := Lib.hid (K7.out.keep b4)
          replace HB := Lib.hid (bthen HB.out b4)
          clear hr4 b4
          have hn5 : (kindsL s).length ≤ 5 := kindsTo_len s 5
          obtain ⟨zs, hzs⟩ : ∃ zs, zs = kindsL s := ⟨_, rfl⟩
          rw [← hzs] at HR3 HR4 hn5
          rw [← hzs]
          clear hzs
          obtain ⟨n, hn⟩ : ∃ n, n = zs.length := ⟨_, rfl⟩
          rw [← hn] at HR3 HR4 hn5
          rw [← hn]
          clear hn
          go_wp2_with fail
          refine (phas_b HHas.out _ _ _ _ (row_keep HRow.out HB.out)).mono ?_
          rintro e w4 ⟨rfl, rfl⟩
          go_wp2
          go_loopw [28] (fun i wz => ∃ k : Nat, k ≤ n ∧ i = .int .i64 k ∧ Row wz a3 n zs ∧ Row wz a4 n zs ∧ Blk wz (w.heap.size + 1) 31 Xp.toArray ∧ Below w.heap.size w wz) (fun i _ => n - (intOf i).toNat)
          case atStart => exact ⟨0, by omega, rfl, HR3.out, HR4.out, K7.out, HB.out⟩
          case round =>
            clear HR3 HR4 K7 HB
            obtain ⟨k, hk, rfl, hr3, hr4, k7, hb⟩ := hrel
            have HR3 := Lib.hid hr3
            have HR4 := Lib.hid hr4
            have K7 := Lib.hid k7
            have HB := Lib.hid hb
            clear hr3 hr4 k7 hb
            by_cases hlt : k < n
            · obtain ⟨b3, o3, x3, rfl, hx3, cx3⟩ := row_at6 HR3.out hlt
              obtain ⟨b4, o4, x4, rfl, hx4, cx4⟩ := row_at6 HR4.out hlt
              obtain rfl : x3 = x4 := by rw [hx3] at hx4; exact Option.some.inj hx4
              clear hx3 hx4
              have hk0 : (0 : Int) ≤ (k : Int) := by omega
              have hk1 : (k : Int) < (n : Int) := by omega
              go_wp2
              go_quiet (fail)
              go_wp2
              go_roundw
              case rel => exact ⟨k + 1, by omega, by go_num, HR3.out, HR4.out, Blk.drewN K7.out _, bdrewN HB.out _⟩
              case measure => simp [intOf] <;> omega
            · clear HR3 HR4
              go_wp2
              have hu := Try.underlying31
              refine fin (fun W => Blk W (w.heap.size + 1) 31 Xp.toArray ∧ Below w.heap.size w W) ⟨K7.out, HB.out⟩ ?_
              clear K7 HB
              rintro Z0 ⟨k7, hb⟩
              have K7 := Lib.hid (Blk.drew k7)
              have HB := Lib.hid (bdrewn hb)
              clear k7 hb
              refine wp_region_held_drew (S := fun w' => w'.rangeAt (w.heap.size + 1) 0 Xp) (by kernel_rfl) (blk_whole K7.out) (fun hHeld => ?_)
              refine wpAnyH_ready (rs := [0]) (by kernel_rfl) (by simp) ?_
              refine AllReadyH.cons rfl (fun K hK => ?_) AllReadyH.nil
              go_simp
              go_at_call 5
              refine (alive6 _).mono ?_
              rintro e z0 ⟨rfl, b1⟩
              go_wp2_with fail
              refine hK.out _ _ (blk_whole (K7.out.keep b1)) (fun hHeld => ?_)
              clear hK K
              replace K7 := Lib.hid (K7.out.keep b1)
              replace HB := Lib.hid (bthen HB.out b1)
              clear b1
              refine wpAnyH_take (i := 1) (v := ?_) rfl (by kernel_rfl) (by kernel_rfl) (by kernel_rfl) (fun _ _ _ h => h) (Or.inl ⟨by rfl, ?_⟩) hHeld ?_
              rotate_left
              · intro w hSw
                go_simp
                with_reducible rfl
              simp only [Act.put, List.getElem_toArray, List.getElem_cons_zero, List.getElem_cons_succ, List.setIfInBounds_toArray, List.set_cons_zero, List.set_cons_succ]
              refine wpAnyH_take (i := 2) (v := _) rfl (by kernel_rfl) (by kernel_rfl) (by kernel_rfl) (fun _ _ _ h => h) (yieldsIf_load_mid (by rfl) _ _ rfl _ _ rfl _ _ (fun _ h => h) hu rfl HXP.out.2.1) hHeld ?_
              simp only [Act.put, List.getElem_toArray, List.getElem_cons_zero, List.getElem_cons_succ, List.setIfInBounds_toArray, List.set_cons_zero, List.set_cons_succ]
              refine wpAnyH_take (i := 4) (v := _) rfl (by kernel_rfl) (by kernel_rfl) (by kernel_rfl) (fun _ _ _ h => h) (yieldsIf_load_mid (by rfl) _ _ rfl _ _ rfl _ _ (fun _ h => h) hu rfl HXP.out.2.1) hHeld ?_
              simp only [Act.put, List.getElem_toArray, List.getElem_cons_zero, List.getElem_cons_succ, List.setIfInBounds_toArray, List.set_cons_zero, List.set_cons_succ]
              refine wpAnyH_ready (rs := [3]) (by kernel_rfl) (by simp) ?_
              refine AllReadyH.cons rfl (fun K hK => ?_) AllReadyH.nil
              go_simp
              go_at_call 15
              refine (HRI.out _).mono ?_
              rintro e z3 ⟨rfl, b1⟩
              go_wp2_with fail
              refine hK.out _ _ (blk_whole (K7.out.keep b1)) (fun hHeld => ?_)
              clear hK K
              replace K7 := Lib.hid (K7.out.keep b1)
              replace HB := Lib.hid (bthen HB.out b1)
              clear b1
              refine wpAnyH_ready (rs := [5]) (by kernel_rfl) (by simp) ?_
              refine AllReadyH.cons rfl (fun K hK => ?_) AllReadyH.nil
              go_simp
              go_at_call 16
              refine (HRRI.out _).mono ?_
              rintro e z5 ⟨rfl, b1⟩
              go_wp2_with fail
              refine hK.out _ _ (blk_whole (K7.out.keep b1)) (fun hHeld => ?_)
              clear hK K
              replace K7 := Lib.hid (K7.out.keep b1)
              replace HB := Lib.hid (bthen HB.out b1)
              clear b1
              refine wpAnyH_take (i := 6) (v := ?_) rfl (by kernel_rfl) (by kernel_rfl) (by kernel_rfl) (fun _ _ _ h => h) (Or.inl ⟨by rfl, ?_⟩) hHeld ?_
              rotate_left
              · intro w hSw
                go_simp
                with_reducible rfl
              simp only [Act.put, List.getElem_toArray, List.getElem_cons_zero, List.getElem_cons_succ, List.setIfInBounds_toArray, List.set_cons_zero, List.set_cons_succ]
              refine wpAnyH_take (i := 7) (v := ?_) rfl (by kernel_rfl) (by kernel_rfl) (by kernel_rfl) (fun _ _ _ h => h) (Or.inl ⟨by rfl, ?_⟩) hHeld ?_
              rotate_left
              · intro w hSw
                go_simp
                with_reducible rfl
              simp only [Act.put, List.getElem_toArray, List.getElem_cons_zero, List.getElem_cons_succ, List.setIfInBounds_toArray, List.set_cons_zero, List.set_cons_succ]
              refine wpAnyH_take (i := 8) (v := ?_) rfl (by kernel_rfl) (by kernel_rfl) (by kernel_rfl) (fun _ _ _ h => h) (Or.inl ⟨by rfl, ?_⟩) hHeld ?_
              rotate_left
              · intro w hSw
                go_simp
                with_reducible rfl
              simp only [Act.put, List.getElem_toArray, List.getElem_cons_zero, List.getElem_cons_succ, List.setIfInBounds_toArray, List.set_cons_zero, List.set_cons_succ]
              refine wpAnyH_take (i := 9) (v := _) rfl (by kernel_rfl) (by kernel_rfl) (by kernel_rfl) (fun _ _ _ h => h) (yieldsIf_load_mid (by rfl) _ _ rfl _ _ rfl _ _ (fun _ h => h) hu rfl HXP.out.2.1) hHeld ?_
              simp only [Act.put, List.getElem_toArray, List.getElem_cons_zero, List.getElem_cons_succ, List.setIfInBounds_toArray, List.set_cons_zero, List.set_cons_succ]
              refine wpAnyH_take (i := 11) (v := _) rfl (by kernel_rfl) (by kernel_rfl) (by kernel_rfl) (fun _ _ _ h => h) (yieldsIf_load_mid (by rfl) _ _ rfl _ _ rfl _ _ (fun _ h => h) hu rfl HXP.out.2.1) hHeld ?_
              simp only [Act.put, List.getElem_toArray, List.getElem_cons_zero, List.getElem_cons_succ, List.setIfInBounds_toArray, List.set_cons_zero, List.set_cons_succ]
              refine wpAnyH_ready (rs := [10]) (by kernel_rfl) (by simp) ?_
              refine AllReadyH.cons rfl (fun K hK => ?_) AllReadyH.nil
              go_simp
              go_at_call 17
              refine (HDR.out _).mono ?_
              rintro e z10 ⟨rfl, b1⟩
              go_wp2_with fail
              refine hK.out _ _ (blk_whole (K7.out.keep b1)) (fun hHeld => ?_)
              clear hK K
              replace K7 := Lib.hid (K7.out.keep b1)
              replace HB := Lib.hid (bthen HB.out b1)
              clear b1
              refine wpAnyH_ready (rs := [12]) (by kernel_rfl) (by simp) ?_
              refine AllReadyH.cons rfl (fun K hK => ?_) AllReadyH.nil
              go_simp
              go_at_call 18
              refine (HRDR.out _).mono ?_
              rintro e z12 ⟨rfl, b1⟩
              go_wp2_with fail
              refine hK.out _ _ (blk_whole (K7.out.keep b1)) (fun hHeld => ?_)
              clear hK K
              replace K7 := Lib.hid (K7.out.keep b1)
              replace HB := Lib.hid (bthen HB.out b1)
              clear b1
              refine wpAnyH_take (i := 13) (v := ?_) rfl (by kernel_rfl) (by kernel_rfl) (by kernel_rfl) (fun _ _ _ h => h) (Or.inl ⟨by rfl, ?_⟩) hHeld ?_
              rotate_left
              · intro w hSw
                go_simp
                with_reducible rfl
              simp only [Act.put, List.getElem_toArray, List.getElem_cons_zero, List.getElem_cons_succ, List.setIfInBounds_toArray, List.set_cons_zero, List.set_cons_succ]
              refine wpAnyH_take (i := 14) (v := ?_) rfl (by kernel_rfl) (by kernel_rfl) (by kernel_rfl) (fun _ _ _ h => h) (Or.inl ⟨by rfl, ?_⟩) hHeld ?_
              rotate_left
              · intro w hSw
                go_simp
                with_reducible rfl
              simp only [Act.put, List.getElem_toArray, List.getElem_cons_zero, List.getElem_cons_succ, List.setIfInBounds_toArray, List.set_cons_zero, List.set_cons_succ]
              refine wpAnyH_take (i := 15) (v := ?_) rfl (by kernel_rfl) (by kernel_rfl) (by kernel_rfl) (fun _ _ _ h => h) (Or.inl ⟨by rfl, ?_⟩) hHeld ?_
              rotate_left
              · intro w hSw
                go_simp
                with_reducible rfl
              simp only [Act.put, List.getElem_toArray, List.getElem_cons_zero, List.getElem_cons_succ, List.setIfInBounds_toArray, List.set_cons_zero, List.set_cons_succ]
              refine wpAnyH_done (by kernel_rfl) ?_ _
              clear hHeld
              go_wp2_with fail
              go_ret
              exact ⟨rfl, HB.out⟩

theorem eqT_refl (P : PT) (w : World) : (Op.equalIn 10000 31 (.agg (pl P).toArray) (.agg (pl P).toArray)).run Try.prog w = .ok true w := by
  have := eqT_run P P w
  rw [eqT_self] at this
  exact this
theorem walk (P Q : PT) (a : Option Addr) (len cap : Nat) (ks : List Int) (s : Int) (w : World) (row : Row w a len ks) :
    Calls Try.prog 3 #[.agg (pl P ++ pl Q).toArray, .slice a len cap, .int .i64 s] w fun e w' => e = .returned (.bool true) ∧ Below w.heap.size w w' := by
  by_cases h : 60 < len
  · exact walk_many _ a len cap s w h row.2.1
  · exact walk_few (pl P ++ pl Q) (pl P) (pl Q) (pl (withV P Q ks)) (pl (woutV P ks)) (ksV ks) (ksE ks) (withE P Q ks) (woutE P ks) (rightT P) (drawnT P) a len cap ks s w (by omega) row rfl rfl (px P) (px Q) (px _) (px _)
      (fun w' r => pof_any a len cap ks w' r) (fun w' r => rksof_any a len cap ks w' r) (fun w' r => pwith_any P Q a len cap ks w' r) (fun w' r => rwith_any P Q a len cap ks w' r) (fun w' r => pwoutT P a len cap ks w' r) (fun w' r => rwout_any P a len cap ks w' r)
      (fun w' => pright_any P w') (fun w' => rrightT rfl w') (fun w' => pdrawn_any P w') (fun w' => rdrawn_any _ _ _ _ _ _ _ _ w') (eqT_refl _) (eqT_refl _)

theorem open_row {H : Type} {enc : TypeId × Value → H} {w : World} {base : Nat} {held : Bool} {fuel : Nat} {a : Option Addr} {len cap : Nat} {x : DataW H × List MemPlace}
    (h : DataW.trod enc Try.prog w base (fun _ => true) held fuel 33 [.slice a len cap] = some x) : ∃ zs, Row w a len zs := by
  rcases open_ints Try.underlying33 Try.underlying45 (by kernel_rfl) h with ⟨hcs, _⟩ | ⟨ad, l, c, zs, hcs, _, hl, hm, hz, _, hcell, hwz⟩
  · simp at hcs
    obtain ⟨rfl, rfl, rfl⟩ := hcs
    exact ⟨[], rfl, by omega, .inl rfl⟩
  · simp at hcs
    obtain ⟨rfl, rfl, rfl⟩ := hcs
    unfold maxLen at hm
    simp only [if_true] at hz
    refine ⟨zs.take len, by rw [List.length_take]; omega, by omega, ?_⟩
    by_cases h0 : len = 0
    · exact .inl h0
    · obtain ⟨b, off, spot⟩ := ad
      have hspot : spot = none := by simpa [Addr.add] using World.cell?_spot (hcell 0 (by omega))
      subst hspot
      refine .inr ⟨b, off, rfl, fun i hi => ?_⟩
      have := hcell i (by omega)
      rw [Addr.add_mid] at this
      rw [this]
      simp [hi]

set_option maxRecDepth 100000 in
theorem lifted (os : Os) (started : os.Started) (H : Type) (enc : TypeId × Value → H) :
    ReturnsInHanded {} Try.checked os 3 .any (Rows.partsTellsSpec.pre6 enc Try.prog Try.f3 Rows.partsTellsRow.domain false) (Rows.partsTellsSpec.post enc Try.prog Try.f3 false true false false) := by
  refine returnsInHanded_of_change (C := Try.checked) own started (by kernel_rfl) Try.func3
    (ChangeSpec.witness6 (enc := enc) (C := Try.checked) false ⟨#[], #[.agg (pl zT ++ pl zT).toArray, .slice none 0 0, .int .i64 0], []⟩ 8 (by kernel_rfl) (by kernel_rfl) (by kernel_rfl) (by kernel_rfl)) ?_
  intro W base args ds gs before hval0 hW hcnd _
  have hval : ∀ (j : Nat) t v, Try.f3.params[j]? = some t → args[j]? = some v → Value.okWide Try.prog W .any base t v := hval0
  have hW' := hW
  obtain ⟨p, q, hA0, hV, rfl, hfz, hnd⟩ := hW
  have hA : DataW.TrodAll enc Try.prog W 0 (fun _ => true) true Try.f3.params.toList args.toList ds p := hA0
  rw [Try.params3] at hA hval
  obtain ⟨v0, vs0, d0, ds0, p0, q0, hargs, rfl, rfl, h0, r0⟩ := trodAll_cons hA
  obtain ⟨v1, vs1, d1, ds1, p1, q1, rfl, rfl, rfl, h1, r1⟩ := trodAll_cons r0
  obtain ⟨v2, vs2, d2, ds2, p2, q2, rfl, rfl, rfl, h2, r2⟩ := trodAll_cons r1
  obtain ⟨rfl, rfl, rfl⟩ := trodAll_nil r2
  obtain rfl : args = #[v0, v1, v2] := by cases args; simp_all
  obtain ⟨rfl, rfl⟩ := trodVars_none hV
  have k0 := h0
  have lt0 : ∀ x ∈ p0, x.block < W.heap.size := by obtain ⟨m, hm⟩ := k0; exact DataW.trod_lt m _ _ _ hm
  obtain ⟨P, Q, rfl⟩ := open_parts2 (hval 0 32 v0 rfl rfl) h0
  obtain ⟨a1, len1, cap1, rfl⟩ := okWide_slice Try.underlying33 (hval 1 33 v1 rfl rfl)
  have k1 := h1
  have lt1 : ∀ x ∈ p1, x.block < W.heap.size := by obtain ⟨m, hm⟩ := k1; exact DataW.trod_lt m _ _ _ hm
  obtain ⟨zs, row⟩ : ∃ zs, Row W a1 len1 zs := by
    obtain ⟨fuel, hf⟩ := h1
    exact open_row (by simpa [Value.cells] using hf)
  obtain ⟨x2, rfl, rfl, rfl, w2⟩ := open_int Try.underlying22 (hval 2 22 v2 rfl rfl) h2
  clear hA0 hval0
  refine (walk P Q a1 len1 cap1 zs x2 W row).mono fun e W' ⟨he, bel⟩ => ?_
  subst he
  exact ⟨_, rfl, _, _, _, [], _, [], hW', trodAll_mk1 (shut_bool Try.underlying4 _), (trodAll_cons_mk (Below.trod laidOut (by kernel_rfl) (of_decide_eq_true (by kernel_rfl)) k0 bel lt0) (trodAll_cons_mk (Below.trod laidOut (by kernel_rfl) (of_decide_eq_true (by kernel_rfl)) k1 bel lt1) (trodAll_cons_mk (shut_int Try.underlying22 w2) trodAll_mk0))), rfl, bel.frame _, fun h => by cases h⟩

theorem over : Rows.partsTellsRow.holds Try.pinned (OpenSpec.ofChange Rows.partsTellsSpec) :=
  OpenClaim.holds_of_wide 3 Try.f3 rfl rfl rfl rfl rfl rfl rfl ⟨rfl, rfl, rfl, rfl, rfl⟩ rfl rfl rfl rfl rfl (by kernel_rfl) Try.func3 (by kernel_rfl)
    (of_decide_eq_true (by kernel_rfl)) (by unfold Func.isWrapper; first | (rw [if_pos (by decide +kernel)]; kernel_rfl) | (rw [if_neg (by decide +kernel)]; exact ⟨rfl, rfl⟩))
    (fun os started H enc _ => lifted os started H enc)

end Go.Proofs.Ytfekaolnmkikoaa.partsTells
namespace Go.Proofs.Ytfekaolnmkikoaa
theorem partsTells_holds : Rows.PartsTellsSaid := partsTells.over
#print axioms partsTells_holds
end Go.Proofs.Ytfekaolnmkikoaa
