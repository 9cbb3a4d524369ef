/-
  No store: what the landed store's methods answer at a nil pointer.
-/
import Derived.Test.YtcpgkkphibhdfaaGreatLstN
import Derived.Test.YtcpgkkphibhdfaaGreatMStz
namespace Go.Proofs.YtcpgkkphibhdfaaGreat
open Go.RowKit

set_option maxHeartbeats 1000000 in
set_option maxRecDepth 100000 in
theorem nspawn (w : World) : Calls Tryz.prog 11 #[.pointer none, .agg Z24.toArray] w fun e w' => ∃ v, e = .returned (.tuple #[.int .i64 v, .int .i64 1]) ∧ Below w.heap.size w w' := by
  obtain ⟨Z, hZ⟩ : ∃ Z, Z = Z24 := ⟨_, rfl⟩
  rw [← hZ]
  clear hZ
  go_enter Tryz.func11, Tryz.ntmps11
  go_wp2
  go_ret2
  exact ⟨0, rfl, alloc_below _ _⟩
set_option maxHeartbeats 1000000 in
set_option maxRecDepth 100000 in
theorem nget (w : World) : Calls Tryz.prog 12 #[.pointer none, .int .i64 0] w fun e w' => ∃ Y, e = .returned (.tuple #[.agg (List.toArray Y), .bool false]) ∧ PXs Y ∧ Below w.heap.size w w' := by
  have HPX := Lib.hid (pxs zT)
  have HBd : Hid (∀ W, (Instr.build 44 #[]).run Tryz.prog W = .ok (.agg (pl zT).toArray) W) := Lib.hid b9zero
  obtain ⟨Xp, hXp⟩ : ∃ Xp, Xp = pl zT := ⟨_, rfl⟩
  rw [← hXp] at HPX HBd
  have K4 := Lib.hid (Blk.new w 44 Z24.toArray)
  have HB4 : Hid (Below w.heap.size w (w.alloc (.cells Z24.toArray 44))) := Lib.hid (alloc_below _ _)
  clear hXp
  go_enter Tryz.func12, Tryz.ntmps12
  go_upto_region 1 with fail
  refine fin (fun W => Blk W w.heap.size 44 Z24.toArray ∧ Below w.heap.size w W) ⟨K4.out, HB4.out⟩ ?_
  clear K4 HB4
  rintro W0 ⟨k4, b4⟩
  have HB4 := Lib.hid b4
  have HT4 : Hid (W0.there w.heap.size 0 Xp.toArray.size) := Lib.hid (blk_there k4 (by rw [List.size_toArray, HPX.out.1]; exact Nat.le_refl 24))
  have L4 : Hid (Blk (W0.setCells w.heap.size 0 Xp) w.heap.size 44 Xp.toArray) := Lib.hid (blk_over k4 (by rw [HPX.out.1]; rfl))
  have z4 := k4.lt
  clear k4 b4
  go_wp2_with (first | refine wpList_bld9 rfl 44 rfl (.agg Xp.toArray) HBd.out ?_ | refine wpList_store_mid rfl 44 (.tmp 4) (.tmp 22) rfl w.heap.size 0 Xp.toArray rfl rfl HT4.out HPX.out.2.2.1 HPX.out.2.2.2 ?_)
  refine fin (fun W => Blk W w.heap.size 44 Xp.toArray ∧ Below w.heap.size w W) ⟨L4.out, below_setCells _ HB4.out (Nat.le_refl _)⟩ ?_
  rintro W ⟨kr, hb⟩
  have hl := run_loadVar_mid W w.heap.size 0 44 Xp _ (blk_whole kr) Tryz.underlying44 rfl HPX.out.2.1
  try simp only [Go.Act.put, List.setIfInBounds_toArray, List.set_cons_zero, List.set_cons_succ]
  exact bodyPost_ret (v := .tuple #[.agg Xp.toArray, .bool false]) (results_cell2 Tryz.results12 rfl rfl hl) rfl ⟨Xp, rfl, HPX.out, hb⟩
set_option maxHeartbeats 1000000 in
set_option maxRecDepth 100000 in
theorem nall (w : World) : Calls Tryz.prog 13 #[.pointer none] w fun e w' => e = .returned (.slice none 0 0) ∧ w = w' := by
  go_enter Tryz.func13, Tryz.ntmps13
  go_wp2
  go_ret
  exact ⟨rfl, rfl⟩
set_option maxHeartbeats 1000000 in
set_option maxRecDepth 100000 in
theorem nquery (w : World) : Calls Tryz.prog 14 #[.pointer none, .int .i64 0, .int .i64 0] w fun e w' => ∃ a cap, e = .returned (.slice a 0 cap) ∧ Below w.heap.size w w' := by
  go_enter Tryz.func14, Tryz.ntmps14
  go_wp2
  go_ret
  exact ⟨none, 0, rfl, Below.refl _ _⟩
set_option maxHeartbeats 1000000 in
set_option maxRecDepth 100000 in
theorem nchanged (w : World) : Calls Tryz.prog 15 #[.pointer none, .int .i64 0] w fun e w' => ∃ a cap, e = .returned (.slice a 0 cap) ∧ Below w.heap.size w w' := by
  have HA := Lib.hid (nall w)
  have HS : Hid (Calls Tryz.prog 49 #[.slice none 0 0] w fun e w' => e = .returned (.tuple #[]) ∧ w' = w) := Lib.hid (AnyM.slices_Sort_int_none lay_sortB none 0 w)
  go_enter Tryz.func15, Tryz.ntmps15
  go_wp2_with fail
  refine HA.out.mono ?_
  rintro e w1 ⟨rfl, rfl⟩
  go_wp2
  go_loopw [5, 11] (fun v i wr => v = .slice none 0 0 ∧ i = .int .i64 0 ∧ wr = w) (fun _ _ _ => 0)
  case atStart => exact ⟨rfl, rfl, rfl⟩
  case round =>
    obtain ⟨rfl, rfl, rfl⟩ := hrel
    go_wp2_with fail
    refine HS.out.mono ?_
    rintro e w1 ⟨rfl, rfl⟩
    go_wp2
    go_ret
    exact ⟨none, 0, rfl, Below.refl _ _⟩
set_option maxHeartbeats 1000000 in
set_option maxRecDepth 100000 in
theorem ngone (w : World) : Calls Tryz.prog 16 #[.pointer none, .int .i64 0] w fun e w' => ∃ a cap, e = .returned (.slice a 0 cap) ∧ Below w.heap.size w w' := by
  go_enter Tryz.func16, Tryz.ntmps16
  go_wp2
  go_ret
  exact ⟨none, 0, rfl, Below.refl _ _⟩
set_option maxHeartbeats 1000000 in
set_option maxRecDepth 100000 in
theorem ntick (w : World) : Calls Tryz.prog 17 #[.pointer none] w fun e w' => e = .returned (.int .i64 0) ∧ Below w.heap.size w w' := by
  go_enter Tryz.func17, Tryz.ntmps17
  go_wp2
  go_ret
  exact ⟨rfl, Below.refl _ _⟩
set_option maxHeartbeats 1000000 in
set_option maxRecDepth 100000 in
theorem nnext (w : World) : Calls Tryz.prog 18 #[.pointer none] w fun e w' => e = .returned (.int .i64 0) ∧ Below w.heap.size w w' := by
  go_enter Tryz.func18, Tryz.ntmps18
  go_wp2
  go_ret
  exact ⟨rfl, Below.refl _ _⟩
set_option maxHeartbeats 1000000 in
set_option maxRecDepth 100000 in
theorem ntouch (w : World) (a : Option Addr) (n cap : Nat) : Calls Tryz.prog 19 #[.pointer none, .slice a n cap] w fun e w' => e = .returned (.int .i64 0) ∧ Below w.heap.size w w' := by
  go_enter Tryz.func19, Tryz.ntmps19
  go_wp2
  go_ret
  exact ⟨rfl, Below.refl _ _⟩
set_option maxHeartbeats 1000000 in
set_option maxRecDepth 100000 in
theorem ndespawn (w : World) : Calls Tryz.prog 20 #[.pointer none, .int .i64 0] w fun e w' => e = .returned (.int .i64 1) ∧ Below w.heap.size w w' := by
  go_enter Tryz.func20, Tryz.ntmps20
  go_wp2
  go_ret
  exact ⟨rfl, Below.refl _ _⟩
set_option maxHeartbeats 1000000 in
set_option maxRecDepth 100000 in
theorem nremake (w : World) (f : Value) : Calls Tryz.prog 52 #[.pointer none, .int .i64 0, f] w fun e w' => e = .returned (.int .i64 1) ∧ w = w' := by
  go_enter Tryz.func52, Tryz.ntmps52
  go_wp2
  go_ret
  exact ⟨rfl, rfl⟩
set_option maxHeartbeats 1000000 in
set_option maxRecDepth 100000 in
theorem nput (w : World) : Calls Tryz.prog 21 #[.pointer none, .int .i64 0, .agg Z24.toArray, .slice none 0 0] w fun e w' => e = .returned (.int .i64 1) ∧ Below w.heap.size w w' := by
  obtain ⟨Z, hZ⟩ : ∃ Z, Z = Z24 := ⟨_, rfl⟩
  rw [← hZ]
  clear hZ
  have HR := Lib.hid nremake
  go_enter Tryz.func21, Tryz.ntmps21
  go_wp2_with fail
  refine (HR.out _ _).mono ?_
  rintro e w1 ⟨rfl, rfl⟩
  go_wp2
  go_ret
  exact ⟨rfl, bthen (alloc_below _ _) (alloc_below _ _)⟩
set_option maxHeartbeats 1000000 in
set_option maxRecDepth 100000 in
theorem ncut (w : World) : Calls Tryz.prog 22 #[.pointer none, .int .i64 0, .slice none 0 0] w fun e w' => e = .returned (.int .i64 1) ∧ Below w.heap.size w w' := by
  have HR := Lib.hid nremake
  go_enter Tryz.func22, Tryz.ntmps22
  go_wp2_with fail
  refine (HR.out _ _).mono ?_
  rintro e w1 ⟨rfl, rfl⟩
  go_wp2
  go_ret
  exact ⟨rfl, alloc_below _ _⟩
theorem sn_holds : SN := ⟨nspawn, nget, fun w => (nall w).mono fun _ _ ⟨he, hw⟩ => ⟨none, 0, he, hw ▸ Below.refl _ _⟩, nquery, nchanged, ngone, ntick, nnext, fun w a n cap _ _ => ntouch w a n cap, ndespawn, nput, ncut⟩

end Go.Proofs.YtcpgkkphibhdfaaGreat
