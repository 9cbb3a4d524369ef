/-
  The closures of vec.Sub and vec.Add: what they answer at a place; the numbers that vectors have at a place.
-/
import Derived.Test.YtcmliidkkgkgcaaVecC
import Derived.Deep.OwnRows
namespace Go.Proofs.Ytcmliidkkgkgcaa
open Go.RowKit

theorem sub_sum {x y : Int} (hx : okB x = true) (hy : okB y = true) : addV [x, -1 - y, 1] = fitV (x - y) ∧ addE [x, -1 - y, 1] = fitE (x - y) := by
  obtain ⟨y1, y2⟩ := okB_iff.1 hy
  have h : addOk [x, -1 - y, 1] = true := by
    unfold addOk rightB
    simp [hx, okB_yes (x := -1 - y) (by omega) (by omega), show okB 1 = true by decide]
  have e : [x, -1 - y, 1].sum = x - y := by simp; omega
  rw [addV_yes h, addE_yes h, e]
  exact ⟨rfl, rfl⟩

theorem add3_sub {x y : Int} (hx : okB x = true) (hy : okB y = true) (a : Option Addr) (cap : Nat) (w : World) (h : Row w a 3 [x, -1 - y, 1]) :
    Calls Try.prog 24 #[.slice a 3 cap] w fun e w' => e = .returned (.tuple #[.int .i64 (fitV (x - y)), .int .i64 (fitE (x - y))]) ∧ Below w.heap.size w w' :=
  (add_any a 3 cap _ w h).mono fun _ _ ⟨he, hw⟩ => ⟨by rw [he, (sub_sum hx hy).1, (sub_sum hx hy).2], hw⟩

def col0 (vs : List V3) : List Int := vs.map (·.1)
def col1 (vs : List V3) : List Int := vs.map (·.2.1)
def col2 (vs : List V3) : List Int := vs.map (·.2.2)

theorem Blk.drew {w : World} {g : Nat} {t : TypeId} {cs : Array Value} (h : Blk w g t cs) : Blk w.drew g t cs := h

theorem World.rowIs.keep {w w' : World} {b : Nat} {t : TypeId} {n : Nat} {f : Nat → Value} (h : w.rowIs b t n f) (hb : Below w.heap.size w w') : w'.rowIs b t n f := h.of_block (hb.block b h.lt)

theorem col_step {zs : List Int} {k : Nat} {x : Int} (h : zs.getD k 0 = x) (j : Nat) :
    (if j = k then Value.int .i64 x else if j < k then .int .i64 (zs.getD j 0) else .int .i64 0) = if j < k + 1 then .int .i64 (zs.getD j 0) else .int .i64 0 := by
  by_cases e : j = k
  · subst e; rw [if_pos rfl, if_pos (by omega), h]
  · rw [if_neg e]
    by_cases e2 : j < k
    · rw [if_pos e2, if_pos (by omega)]
    · rw [if_neg e2, if_neg (by omega)]

theorem row_of_is {w : World} {b : Nat} {t : TypeId} {n : Nat} {zs : List Int} (hl : zs.length = n) (hn : n ≤ 9223372036854775807) (h : w.rowIs b t n (fun j => .int .i64 (zs.getD j 0))) : Row w (some ⟨b, 0, none⟩) n zs :=
  ⟨hl, hn, Or.inr ⟨b, 0, rfl, fun i hi => by rw [Nat.zero_add]; exact h.cell hi⟩⟩

theorem col0_at {vs : List V3} {j : Nat} {x y z : Int} (h : vs[j]? = some (x, y, z)) : (col0 vs).getD j 0 = x := by
  unfold col0
  simp [List.getD, h]

set_option maxHeartbeats 400000 in
theorem sub1_0 (ga gb : Nat) (x y : Int) (w : World) (hx : okB x = true) (hy : okB y = true) (c0 : w.cell? ⟨ga, 0, none⟩ = some (.int .i64 x)) (d0 : w.cell? ⟨gb, 0, none⟩ = some (.int .i64 y)) :
    Calls Try.prog 27 #[.int .i64 0, .pointer (some ⟨ga, 0, none⟩), .pointer (some ⟨gb, 0, none⟩)] w fun e w'' => e = .returned (.tuple #[.int .i64 (fitV (x - y)), .int .i64 (fitE (x - y))]) ∧ Below w.heap.size w w'' := by
  have HX := Lib.hid hx
  have HY := Lib.hid hy
  obtain ⟨y1, y2⟩ := okB_iff.1 hy
  clear hx hy
  have hw : IntKind.i64.wrap (-1 - y) = -1 - y := IntWalk.i64_in _ (by omega)
  go_enter Try.func27, Try.ntmps27
  go_wp2
  go_region_held3 (fun w' => w'.cell? ⟨ga, 0, none⟩ = some (.int .i64 x) ∧ w'.cell? ⟨gb, 0, none⟩ = some (.int .i64 y)) (first | exact ⟨cell_keep c0 (bthen (alloc_below _ _) (bdrew b1)), cell_keep d0 (bthen (alloc_below _ _) (bdrew b1))⟩ | go_keep)
    (first | (go_at_call 24; refine (add3_sub HX.out HY.out _ _ _ (row3 (Blk.new w _ _).drew)).mono ?_; rintro e w1 ⟨rfl, b1⟩))
  go_wp2
  go_ret2
  exact ⟨rfl, bthen (alloc_below _ _) (bdrew b1)⟩

set_option maxHeartbeats 400000 in
theorem column_0 (a : Option Addr) (len cap : Nat) (vs : List V3) (w : World) (hle : len ≤ 1024) (row : VRow w a len vs) :
    Calls Try.prog 25 #[.slice a len cap, .int .i64 0] w fun e w' => e = .returned (.slice (some ⟨w.heap.size, 0, none⟩) len len) ∧ w'.rowIs w.heap.size 23 len (fun j => .int .i64 ((col0 vs).getD j 0)) ∧ Below w.heap.size w w' := by
  have HL := Lib.hid row.1
  have HRow := Lib.hid row
  clear row
  have hmk := run_make_row' (P := Try.prog) 49 23 (.int .i64 0) 8 Try.underlying49 (by kernel_rfl) rfl .i64 .i64 len (by omega) (by omega)
  go_enter Try.func25, Try.ntmps25
  go_wp2
  go_loopw [6, 7, 13] (fun _ _ i wr => ∃ k : Nat, k ≤ len ∧ i = .int .i64 k ∧ wr.rowIs w.heap.size 23 len (fun j => if j < k then .int .i64 ((col0 vs).getD j 0) else .int .i64 0) ∧ Below w.heap.size w wr) (fun _ _ i _ => len - (intOf i).toNat)
  case atStart => exact ⟨0, Nat.zero_le _, rfl, (World.rowIs_made w (.int .i64 0) len 23).congr (fun i _ => by simp), alloc_below _ _⟩
  case round =>
    obtain ⟨k, hk, rfl, hr, hb⟩ := hrel
    have HR := Lib.hid hr
    have HB := Lib.hid hb
    clear hr hb
    by_cases hlt : k < len
    · obtain ⟨b, off, x, y, z, rfl, hv, c0, c1, c2⟩ := (vrow_keep HRow.out HB.out).at_ hlt
      have HV := Lib.hid hv
      clear hv
      have rc := (HR.out.alloc (.cells #[.int .i64 x, .int .i64 y, .int .i64 z] 25)).cell hlt
      have rf := (HR.out.alloc (.cells #[.int .i64 x, .int .i64 y, .int .i64 z] 25)).frozen k
      simp only [Nat.lt_irrefl, if_false] at rc
      go_wp2
      go_roundw
      case rel => exact ⟨k + 1, by omega, by go_num, ((HR.out.alloc _).set k _).congr (fun j hj => col_step (k := k) (col0_at HV.out) j), (balloc HB.out _).setCell (Nat.le_refl _) _⟩
      case measure => simp [intOf]; omega
    · go_wp2
      go_ret
      exact ⟨rfl, HR.out.congr (fun j hj => by rw [if_pos (by omega)]), HB.out⟩

theorem col0_len (vs : List V3) : (col0 vs).length = vs.length := List.length_map ..

set_option maxHeartbeats 400000 in
theorem add1_0 (g : Nat) (a : Option Addr) (len cap : Nat) (vs : List V3) (w : World) (hle : len ≤ 1024) (hc : w.cell? ⟨g, 0, none⟩ = some (.slice a len cap)) (row : VRow w a len vs) :
    Calls Try.prog 23 #[.int .i64 0, .pointer (some ⟨g, 0, none⟩)] w fun e w' => e = .returned (.tuple #[.int .i64 (addV (col0 vs)), .int .i64 (addE (col0 vs))]) ∧ Below w.heap.size w w' := by
  have HRow := Lib.hid row
  have HLen := Lib.hid ((col0_len vs).trans row.1)
  clear row
  go_enter Try.func23, Try.ntmps23
  go_wp2_with fail
  refine (column_0 _ _ _ vs _ hle HRow.out).mono ?_
  rintro e w1 ⟨rfl, r1, b1⟩
  have R1 := Lib.hid r1
  have B1 := Lib.hid b1
  clear r1 b1
  go_wp2_with fail
  refine (add_any _ _ _ (col0 vs) _ (row_of_is HLen.out (by omega) R1.out)).mono ?_
  rintro e w2 ⟨rfl, b2⟩
  have B2 := Lib.hid b2
  clear b2
  go_wp2
  go_ret2
  exact ⟨rfl, bthen B1.out B2.out⟩

theorem col1_at {vs : List V3} {j : Nat} {x y z : Int} (h : vs[j]? = some (x, y, z)) : (col1 vs).getD j 0 = y := by
  unfold col1
  simp [List.getD, h]

set_option maxHeartbeats 400000 in
theorem sub1_1 (ga gb : Nat) (x y : Int) (w : World) (hx : okB x = true) (hy : okB y = true) (c0 : w.cell? ⟨ga, 1, none⟩ = some (.int .i64 x)) (d0 : w.cell? ⟨gb, 1, none⟩ = some (.int .i64 y)) :
    Calls Try.prog 27 #[.int .i64 1, .pointer (some ⟨ga, 0, none⟩), .pointer (some ⟨gb, 0, none⟩)] w fun e w'' => e = .returned (.tuple #[.int .i64 (fitV (x - y)), .int .i64 (fitE (x - y))]) ∧ Below w.heap.size w w'' := by
  have HX := Lib.hid hx
  have HY := Lib.hid hy
  obtain ⟨y1, y2⟩ := okB_iff.1 hy
  clear hx hy
  have hw : IntKind.i64.wrap (-1 - y) = -1 - y := IntWalk.i64_in _ (by omega)
  go_enter Try.func27, Try.ntmps27
  go_wp2
  go_region_held3 (fun w' => w'.cell? ⟨ga, 1, none⟩ = some (.int .i64 x) ∧ w'.cell? ⟨gb, 1, none⟩ = some (.int .i64 y)) (first | exact ⟨cell_keep c0 (bthen (alloc_below _ _) (bdrew b1)), cell_keep d0 (bthen (alloc_below _ _) (bdrew b1))⟩ | go_keep)
    (first | (go_at_call 24; refine (add3_sub HX.out HY.out _ _ _ (row3 (Blk.new w _ _).drew)).mono ?_; rintro e w1 ⟨rfl, b1⟩))
  go_wp2
  go_ret2
  exact ⟨rfl, bthen (alloc_below _ _) (bdrew b1)⟩

set_option maxHeartbeats 400000 in
theorem column_1 (a : Option Addr) (len cap : Nat) (vs : List V3) (w : World) (hle : len ≤ 1024) (row : VRow w a len vs) :
    Calls Try.prog 25 #[.slice a len cap, .int .i64 1] w fun e w' => e = .returned (.slice (some ⟨w.heap.size, 0, none⟩) len len) ∧ w'.rowIs w.heap.size 23 len (fun j => .int .i64 ((col1 vs).getD j 0)) ∧ Below w.heap.size w w' := by
  have HL := Lib.hid row.1
  have HRow := Lib.hid row
  clear row
  have hmk := run_make_row' (P := Try.prog) 49 23 (.int .i64 0) 8 Try.underlying49 (by kernel_rfl) rfl .i64 .i64 len (by omega) (by omega)
  go_enter Try.func25, Try.ntmps25
  go_wp2
  go_loopw [6, 7, 13] (fun _ _ i wr => ∃ k : Nat, k ≤ len ∧ i = .int .i64 k ∧ wr.rowIs w.heap.size 23 len (fun j => if j < k then .int .i64 ((col1 vs).getD j 0) else .int .i64 0) ∧ Below w.heap.size w wr) (fun _ _ i _ => len - (intOf i).toNat)
  case atStart => exact ⟨0, Nat.zero_le _, rfl, (World.rowIs_made w (.int .i64 0) len 23).congr (fun i _ => by simp), alloc_below _ _⟩
  case round =>
    obtain ⟨k, hk, rfl, hr, hb⟩ := hrel
    have HR := Lib.hid hr
    have HB := Lib.hid hb
    clear hr hb
    by_cases hlt : k < len
    · obtain ⟨b, off, x, y, z, rfl, hv, c0, c1, c2⟩ := (vrow_keep HRow.out HB.out).at_ hlt
      have HV := Lib.hid hv
      clear hv
      have rc := (HR.out.alloc (.cells #[.int .i64 x, .int .i64 y, .int .i64 z] 25)).cell hlt
      have rf := (HR.out.alloc (.cells #[.int .i64 x, .int .i64 y, .int .i64 z] 25)).frozen k
      simp only [Nat.lt_irrefl, if_false] at rc
      go_wp2
      go_roundw
      case rel => exact ⟨k + 1, by omega, by go_num, ((HR.out.alloc _).set k _).congr (fun j hj => col_step (k := k) (col1_at HV.out) j), (balloc HB.out _).setCell (Nat.le_refl _) _⟩
      case measure => simp [intOf]; omega
    · go_wp2
      go_ret
      exact ⟨rfl, HR.out.congr (fun j hj => by rw [if_pos (by omega)]), HB.out⟩

theorem col1_len (vs : List V3) : (col1 vs).length = vs.length := List.length_map ..

set_option maxHeartbeats 400000 in
theorem add1_1 (g : Nat) (a : Option Addr) (len cap : Nat) (vs : List V3) (w : World) (hle : len ≤ 1024) (hc : w.cell? ⟨g, 0, none⟩ = some (.slice a len cap)) (row : VRow w a len vs) :
    Calls Try.prog 23 #[.int .i64 1, .pointer (some ⟨g, 0, none⟩)] w fun e w' => e = .returned (.tuple #[.int .i64 (addV (col1 vs)), .int .i64 (addE (col1 vs))]) ∧ Below w.heap.size w w' := by
  have HRow := Lib.hid row
  have HLen := Lib.hid ((col1_len vs).trans row.1)
  clear row
  go_enter Try.func23, Try.ntmps23
  go_wp2_with fail
  refine (column_1 _ _ _ vs _ hle HRow.out).mono ?_
  rintro e w1 ⟨rfl, r1, b1⟩
  have R1 := Lib.hid r1
  have B1 := Lib.hid b1
  clear r1 b1
  go_wp2_with fail
  refine (add_any _ _ _ (col1 vs) _ (row_of_is HLen.out (by omega) R1.out)).mono ?_
  rintro e w2 ⟨rfl, b2⟩
  have B2 := Lib.hid b2
  clear b2
  go_wp2
  go_ret2
  exact ⟨rfl, bthen B1.out B2.out⟩

theorem col2_at {vs : List V3} {j : Nat} {x y z : Int} (h : vs[j]? = some (x, y, z)) : (col2 vs).getD j 0 = z := by
  unfold col2
  simp [List.getD, h]

set_option maxHeartbeats 400000 in
theorem sub1_2 (ga gb : Nat) (x y : Int) (w : World) (hx : okB x = true) (hy : okB y = true) (c0 : w.cell? ⟨ga, 2, none⟩ = some (.int .i64 x)) (d0 : w.cell? ⟨gb, 2, none⟩ = some (.int .i64 y)) :
    Calls Try.prog 27 #[.int .i64 2, .pointer (some ⟨ga, 0, none⟩), .pointer (some ⟨gb, 0, none⟩)] w fun e w'' => e = .returned (.tuple #[.int .i64 (fitV (x - y)), .int .i64 (fitE (x - y))]) ∧ Below w.heap.size w w'' := by
  have HX := Lib.hid hx
  have HY := Lib.hid hy
  obtain ⟨y1, y2⟩ := okB_iff.1 hy
  clear hx hy
  have hw : IntKind.i64.wrap (-1 - y) = -1 - y := IntWalk.i64_in _ (by omega)
  go_enter Try.func27, Try.ntmps27
  go_wp2
  go_region_held3 (fun w' => w'.cell? ⟨ga, 2, none⟩ = some (.int .i64 x) ∧ w'.cell? ⟨gb, 2, none⟩ = some (.int .i64 y)) (first | exact ⟨cell_keep c0 (bthen (alloc_below _ _) (bdrew b1)), cell_keep d0 (bthen (alloc_below _ _) (bdrew b1))⟩ | go_keep)
    (first | (go_at_call 24; refine (add3_sub HX.out HY.out _ _ _ (row3 (Blk.new w _ _).drew)).mono ?_; rintro e w1 ⟨rfl, b1⟩))
  go_wp2
  go_ret2
  exact ⟨rfl, bthen (alloc_below _ _) (bdrew b1)⟩

set_option maxHeartbeats 400000 in
theorem column_2 (a : Option Addr) (len cap : Nat) (vs : List V3) (w : World) (hle : len ≤ 1024) (row : VRow w a len vs) :
    Calls Try.prog 25 #[.slice a len cap, .int .i64 2] w fun e w' => e = .returned (.slice (some ⟨w.heap.size, 0, none⟩) len len) ∧ w'.rowIs w.heap.size 23 len (fun j => .int .i64 ((col2 vs).getD j 0)) ∧ Below w.heap.size w w' := by
  have HL := Lib.hid row.1
  have HRow := Lib.hid row
  clear row
  have hmk := run_make_row' (P := Try.prog) 49 23 (.int .i64 0) 8 Try.underlying49 (by kernel_rfl) rfl .i64 .i64 len (by omega) (by omega)
  go_enter Try.func25, Try.ntmps25
  go_wp2
  go_loopw [6, 7, 13] (fun _ _ i wr => ∃ k : Nat, k ≤ len ∧ i = .int .i64 k ∧ wr.rowIs w.heap.size 23 len (fun j => if j < k then .int .i64 ((col2 vs).getD j 0) else .int .i64 0) ∧ Below w.heap.size w wr) (fun _ _ i _ => len - (intOf i).toNat)
  case atStart => exact ⟨0, Nat.zero_le _, rfl, (World.rowIs_made w (.int .i64 0) len 23).congr (fun i _ => by simp), alloc_below _ _⟩
  case round =>
    obtain ⟨k, hk, rfl, hr, hb⟩ := hrel
    have HR := Lib.hid hr
    have HB := Lib.hid hb
    clear hr hb
    by_cases hlt : k < len
    · obtain ⟨b, off, x, y, z, rfl, hv, c0, c1, c2⟩ := (vrow_keep HRow.out HB.out).at_ hlt
      have HV := Lib.hid hv
      clear hv
      have rc := (HR.out.alloc (.cells #[.int .i64 x, .int .i64 y, .int .i64 z] 25)).cell hlt
      have rf := (HR.out.alloc (.cells #[.int .i64 x, .int .i64 y, .int .i64 z] 25)).frozen k
      simp only [Nat.lt_irrefl, if_false] at rc
      go_wp2
      go_roundw
      case rel => exact ⟨k + 1, by omega, by go_num, ((HR.out.alloc _).set k _).congr (fun j hj => col_step (k := k) (col2_at HV.out) j), (balloc HB.out _).setCell (Nat.le_refl _) _⟩
      case measure => simp [intOf]; omega
    · go_wp2
      go_ret
      exact ⟨rfl, HR.out.congr (fun j hj => by rw [if_pos (by omega)]), HB.out⟩

theorem col2_len (vs : List V3) : (col2 vs).length = vs.length := List.length_map ..

set_option maxHeartbeats 400000 in
theorem add1_2 (g : Nat) (a : Option Addr) (len cap : Nat) (vs : List V3) (w : World) (hle : len ≤ 1024) (hc : w.cell? ⟨g, 0, none⟩ = some (.slice a len cap)) (row : VRow w a len vs) :
    Calls Try.prog 23 #[.int .i64 2, .pointer (some ⟨g, 0, none⟩)] w fun e w' => e = .returned (.tuple #[.int .i64 (addV (col2 vs)), .int .i64 (addE (col2 vs))]) ∧ Below w.heap.size w w' := by
  have HRow := Lib.hid row
  have HLen := Lib.hid ((col2_len vs).trans row.1)
  clear row
  go_enter Try.func23, Try.ntmps23
  go_wp2_with fail
  refine (column_2 _ _ _ vs _ hle HRow.out).mono ?_
  rintro e w1 ⟨rfl, r1, b1⟩
  have R1 := Lib.hid r1
  have B1 := Lib.hid b1
  clear r1 b1
  go_wp2_with fail
  refine (add_any _ _ _ (col2 vs) _ (row_of_is HLen.out (by omega) R1.out)).mono ?_
  rintro e w2 ⟨rfl, b2⟩
  have B2 := Lib.hid b2
  clear b2
  go_wp2
  go_ret2
  exact ⟨rfl, bthen B1.out B2.out⟩

end Go.Proofs.Ytcmliidkkgkgcaa
