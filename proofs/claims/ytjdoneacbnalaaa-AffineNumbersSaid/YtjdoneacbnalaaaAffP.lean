/-
  What the law's own 'mat' answers: a matrix of small whole numbers.
-/
import Derived.Test.YtjdoneacbnalaaaAffQ
namespace Go.Proofs.Ytjdoneacbnalaaa
open Go.RowKit

/-- small whole numbers, as numbers of 16 binary places -/
def whM (a : Nat → Int) (k : Nat) : Int := 65536 * a k
theorem Blk.at12k {w : World} {g : Nat} {t : TypeId} {M : Nat → Int} (h : Blk w g t #[.int .i8 (M 0), .int .i8 (M 1), .int .i8 (M 2), .int .i8 (M 3), .int .i8 (M 4), .int .i8 (M 5), .int .i8 (M 6), .int .i8 (M 7), .int .i8 (M 8), .int .i8 (M 9), .int .i8 (M 10), .int .i8 (M 11)]) {k : Nat} (hk : k < 12) : w.cell? ⟨g, k, none⟩ = some (.int .i8 (M k)) := by
  rcases lt12 hk with rfl | rfl | rfl | rfl | rfl | rfl | rfl | rfl | rfl | rfl | rfl | rfl
  · exact h.cell 0
  · exact h.cell 1
  · exact h.cell 2
  · exact h.cell 3
  · exact h.cell 4
  · exact h.cell 5
  · exact h.cell 6
  · exact h.cell 7
  · exact h.cell 8
  · exact h.cell 9
  · exact h.cell 10
  · exact h.cell 11

set_option maxHeartbeats 1000000 in
theorem mat_any (a : Nat → Int) (w : World) (h : ∀ k, k < 12 → -128 ≤ a k ∧ a k ≤ 127) :
    Calls Try.prog 21 #[.agg #[.int .i8 (a 0), .int .i8 (a 1), .int .i8 (a 2), .int .i8 (a 3), .int .i8 (a 4), .int .i8 (a 5), .int .i8 (a 6), .int .i8 (a 7), .int .i8 (a 8), .int .i8 (a 9), .int .i8 (a 10), .int .i8 (a 11)]] w fun e w' => e = .returned (.agg #[.int .i64 (whM a 0), .int .i64 (whM a 1), .int .i64 (whM a 2), .int .i64 (whM a 3), .int .i64 (whM a 4), .int .i64 (whM a 5), .int .i64 (whM a 6), .int .i64 (whM a 7), .int .i64 (whM a 8), .int .i64 (whM a 9), .int .i64 (whM a 10), .int .i64 (whM a 11)]) ∧ Below w.heap.size w w' := by
  have HA := Lib.hid h
  clear h
  go_enter Try.func21, Try.ntmps21
  go_wp2
  go_loopw [4] (fun i wr => ∃ k : Nat, k ≤ 12 ∧ i = .int .i64 k ∧ wr.rowIs (w.heap.size + 2) 25 12 (laidTo (whM a) k) ∧ Blk wr w.heap.size 44 #[.int .i8 (a 0), .int .i8 (a 1), .int .i8 (a 2), .int .i8 (a 3), .int .i8 (a 4), .int .i8 (a 5), .int .i8 (a 6), .int .i8 (a 7), .int .i8 (a 8), .int .i8 (a 9), .int .i8 (a 10), .int .i8 (a 11)] ∧ Blk wr (w.heap.size + 1) 25 #[.int .i64 0, .int .i64 0, .int .i64 0, .int .i64 0, .int .i64 0, .int .i64 0, .int .i64 0, .int .i64 0, .int .i64 0, .int .i64 0, .int .i64 0, .int .i64 0] ∧ Below w.heap.size w wr) (fun i _ => 12 - (intOf i).toNat)
  case atStart => exact ⟨0, by omega, rfl, rowIs_at (laid12_start _ _ _) (by simp), ((Blk.new w _ _).alloc _).alloc _, (blkAt ((Blk.new (w.alloc _) _ _).alloc _) (by simp)), balloc (balloc (alloc_below _ _) _) _⟩
  case round =>
    obtain ⟨k, hk, rfl, hrow, hbm, hres, hb⟩ := hrel
    have HRow := Lib.hid hrow
    have HM := Lib.hid hbm
    have HRes := Lib.hid hres
    have HB := Lib.hid hb
    clear hrow hbm hres hb
    by_cases hlt : k < 12
    · have cx := HM.out.at12k hlt
      obtain ⟨x1, x2⟩ := HA.out k hlt
      obtain ⟨x, hx⟩ : ∃ x, x = a k := ⟨_, rfl⟩
      have HX : Hid (whM a k = 65536 * x) := Lib.hid (by unfold whM; rw [hx])
      rw [← hx] at cx x1 x2
      clear hx
      have rc := HRow.out.cell (i := k) (by omega)
      have rf := HRow.out.frozen k
      unfold laidTo at rc
      simp only [Nat.lt_irrefl, if_false] at rc
      have hk0 : (0 : Int) ≤ (k : Int) := by omega
      have hk3 : (k : Int) < 12 := by omega
      have hw1 : IntKind.i64.wrap x = x := IntWalk.i64_in _ (by omega)
      have hw2 : IntKind.i64.wrap (65536 * x) = 65536 * x := IntWalk.i64_in _ (by omega)
      go_wp2
      go_roundw
      case rel => exact ⟨k + 1, by omega, by go_num, (HRow.out.set k _).congr (fun i _ => by rw [← HX.out]; exact laid_step _ k i), HM.out.far (by simp <;> omega) _, HRes.out.far (by simp) _, HB.out.setCell (by simp <;> omega) _⟩
      case measure => simp [intOf] <;> omega
    · obtain rfl : k = 12 := by omega
      have hm : Blk wr (w.heap.size + 2) 25 #[.int .i64 (whM a 0), .int .i64 (whM a 1), .int .i64 (whM a 2), .int .i64 (whM a 3), .int .i64 (whM a 4), .int .i64 (whM a 5), .int .i64 (whM a 6), .int .i64 (whM a 7), .int .i64 (whM a 8), .int .i64 (whM a 9), .int .i64 (whM a 10), .int .i64 (whM a 11)] := blk_of_row HRow.out
      clear HRow HM
      obtain ⟨o0, o1, o2, o3, o4, o5, o6, o7, o8, o9, o10, o11, _, _, _, _, _, _, _, _, _, _, _, _⟩ := blk12 hm
      obtain ⟨c0, c1, c2, c3, c4, c5, c6, c7, c8, c9, c10, c11, f0, f1, f2, f3, f4, f5, f6, f7, f8, f9, f10, f11⟩ := blk12 HRes.out
      clear hm
      go_wp2
      exact bodyPost_ret (v := .agg #[.int .i64 (whM a 0), .int .i64 (whM a 1), .int .i64 (whM a 2), .int .i64 (whM a 3), .int .i64 (whM a 4), .int .i64 (whM a 5), .int .i64 (whM a 6), .int .i64 (whM a 7), .int .i64 (whM a 8), .int .i64 (whM a 9), .int .i64 (whM a 10), .int .i64 (whM a 11)]) (by simp [results, Try.results21, go_sem, c0, c1, c2, c3, c4, c5, c6, c7, c8, c9, c10, c11]) rfl ⟨rfl, bset12 HB.out (by omega)⟩

end Go.Proofs.Ytjdoneacbnalaaa
