/-
  Boxes and planes as functions of the place (a box: Min at 0 to 2, Max at 3 to 5; a plane: N at 0 to 2, D at 3); whether they may be, and whether a vector is in a box, by the reference of layer 4.
-/
import Derived.Test.YthdgldoailjhhaaVecO
namespace Go.Proofs.Ythdgldoailjhhaa
open Go.RowKit

theorem lt6 {k : Nat} (hk : k < 6) : k = 0 ∨ k = 1 ∨ k = 2 ∨ k = 3 ∨ k = 4 ∨ k = 5 := by omega
theorem Blk.at6 {w : World} {g : Nat} {t : TypeId} {B : Nat → Int} (h : Blk w g t #[.int .i64 (B 0), .int .i64 (B 1), .int .i64 (B 2), .int .i64 (B 3), .int .i64 (B 4), .int .i64 (B 5)]) {k : Nat} (hk : k < 6) : w.cell? ⟨g, k, none⟩ = some (.int .i64 (B k)) := by
  rcases lt6 hk with rfl | rfl | rfl | rfl | rfl | rfl
  · exact h.cell 0
  · exact h.cell 1
  · exact h.cell 2
  · exact h.cell 3
  · exact h.cell 4
  · exact h.cell 5
theorem Blk.atv {w : World} {g : Nat} {t : TypeId} {V : Nat → Int} (h : Blk w g t #[.int .i64 (V 0), .int .i64 (V 1), .int .i64 (V 2)]) {k : Nat} (hk : k < 3) : w.cell? ⟨g, k, none⟩ = some (.int .i64 (V k)) := by
  obtain rfl | rfl | rfl : k = 0 ∨ k = 1 ∨ k = 2 := by omega
  · exact h.cell 0
  · exact h.cell 1
  · exact h.cell 2
/-- may a box be, by its first k places -/
def boxTo (B : Nat → Int) : Nat → Bool
  | 0 => rightV [(B 0, B 1, B 2), (B 3, B 4, B 5)]
  | k + 1 => boxTo B k && decide (B k ≤ B (3 + k))
def okBox (B : Nat → Int) : Bool := boxTo B 3
def okPlane (P : Nat → Int) : Bool := rightB [P 0, P 1, P 2, P 3]
/-- is a vector in a box at a place -/
def inAt (B V : Nat → Int) (k : Nat) : Bool := !(decide (V k < B k)) && !(decide (B (3 + k) < V k))
def inBox (B V : Nat → Int) : Bool := inAt B V 0 && inAt B V 1 && inAt B V 2

set_option maxHeartbeats 1000000 in
theorem rbox_any (B : Nat → Int) (w : World) :
    Calls Try.prog 6 #[.agg #[.int .i64 (B 0), .int .i64 (B 1), .int .i64 (B 2), .int .i64 (B 3), .int .i64 (B 4), .int .i64 (B 5)]] w fun e w' => e = .returned (.bool (okBox B)) ∧ Below w.heap.size w w' := by
  go_enter Try.func6, Try.ntmps6
  go_wp2_with fail
  refine (rvright_any _ _ _ [(B 0, B 1, B 2), (B 3, B 4, B 5)] _ (vrow2 (blkAt (Blk.new _ _ _) (by simp)))).mono ?_
  rintro e w1 ⟨rfl, b1⟩
  have KB := Lib.hid (((Blk.new w 33 _).alloc _).keep b1)
  have HB := Lib.hid (bthen (balloc (alloc_below _ _) _) b1)
  clear b1
  go_wp2
  go_loopw [3, 4] (fun r i wr => ∃ k : Nat, k ≤ 3 ∧ i = .int .i64 k ∧ r = .bool (boxTo B k) ∧ Blk wr w.heap.size 33 #[.int .i64 (B 0), .int .i64 (B 1), .int .i64 (B 2), .int .i64 (B 3), .int .i64 (B 4), .int .i64 (B 5)] ∧ Below w.heap.size w wr) (fun _ i _ => 3 - (intOf i).toNat)
  case atStart => exact ⟨0, by omega, rfl, rfl, KB.out, HB.out⟩
  case round =>
    clear KB HB
    obtain ⟨k, hk, rfl, rfl, hkb, hb⟩ := hrel
    have KB := Lib.hid hkb
    have HB := Lib.hid hb
    clear hkb hb
    by_cases hlt : k < 3
    · have cx := KB.out.at6 (k := k) (by omega)
      have cy := KB.out.at6 (k := 3 + k) (by omega)
      have HS : Hid (boxTo B (k + 1) = (boxTo B k && decide (B k ≤ B (3 + k)))) := Lib.hid rfl
      obtain ⟨x, hx⟩ : ∃ x, x = B k := ⟨_, rfl⟩
      obtain ⟨y, hy⟩ : ∃ y, y = B (3 + k) := ⟨_, rfl⟩
      obtain ⟨s, hs⟩ : ∃ s, s = boxTo B k := ⟨_, rfl⟩
      rw [← hx] at cx
      rw [← hy] at cy
      rw [← hx, ← hy, ← hs] at HS
      rw [← hs]
      clear hx hy hs
      have hk0 : (0 : Int) ≤ (k : Int) := by omega
      have hk3 : (k : Int) < 3 := by omega
      cases s
      · go_wp2
        go_quiet (fail)
        go_wp2
        go_roundw
        case rel => exact ⟨k + 1, by omega, by go_num, by rw [HS.out]; rfl, KB.out.drewN nq, Go.below_drewN HB.out nq⟩
        case measure => simp [intOf] <;> omega
      · go_wp2
        go_quiet (fail)
        go_wp2
        go_roundw
        case rel => exact ⟨k + 1, by omega, by go_num, by rw [HS.out]; rfl, KB.out.drewN nq, Go.below_drewN HB.out nq⟩
        case measure => simp [intOf] <;> omega
    · obtain rfl : k = 3 := by omega
      go_wp2
      go_ret
      exact ⟨rfl, HB.out⟩

theorem row4 {w : World} {g : Nat} {t : TypeId} {P : Nat → Int} (h : Blk w g t #[.int .i64 (P 0), .int .i64 (P 1), .int .i64 (P 2), .int .i64 (P 3)]) : Row w (some ⟨g, 0, none⟩) 4 [P 0, P 1, P 2, P 3] := by
  refine ⟨rfl, by omega, Or.inr ⟨_, _, rfl, fun i hi => ?_⟩⟩
  obtain rfl | rfl | rfl | rfl : i = 0 ∨ i = 1 ∨ i = 2 ∨ i = 3 := by omega
  · exact h.cell 0
  · exact h.cell 1
  · exact h.cell 2
  · exact h.cell 3

set_option maxHeartbeats 1000000 in
theorem rplane_any (P : Nat → Int) (w : World) :
    Calls Try.prog 11 #[.agg #[.int .i64 (P 0), .int .i64 (P 1), .int .i64 (P 2), .int .i64 (P 3)]] w fun e w' => e = .returned (.bool (okPlane P)) ∧ Below w.heap.size w w' := by
  go_enter Try.func11, Try.ntmps11
  go_wp2_with fail
  refine (rright_any _ _ _ [P 0, P 1, P 2, P 3] _ (row4 (blkAt (Blk.new _ _ _) (by simp)))).mono ?_
  rintro e w1 ⟨rfl, rfl⟩
  go_wp2
  go_ret
  exact ⟨rfl, balloc (alloc_below _ _) _⟩

set_option maxHeartbeats 1000000 in
theorem rin_any (B V : Nat → Int) (w : World) :
    Calls Try.prog 17 #[.agg #[.int .i64 (B 0), .int .i64 (B 1), .int .i64 (B 2), .int .i64 (B 3), .int .i64 (B 4), .int .i64 (B 5)], .agg #[.int .i64 (V 0), .int .i64 (V 1), .int .i64 (V 2)]] w fun e w' => e = .returned (.bool (inBox B V)) ∧ Below w.heap.size w w' := by
  go_enter Try.func17, Try.ntmps17
  go_wp2
  go_loopw [5] (fun i wr => ∃ k : Nat, k ≤ 3 ∧ i = .int .i64 k ∧ (∀ j, j < k → inAt B V j = true) ∧ Blk wr w.heap.size 33 #[.int .i64 (B 0), .int .i64 (B 1), .int .i64 (B 2), .int .i64 (B 3), .int .i64 (B 4), .int .i64 (B 5)] ∧ Blk wr (w.heap.size + 1) 27 #[.int .i64 (V 0), .int .i64 (V 1), .int .i64 (V 2)] ∧ Below w.heap.size w wr) (fun i _ => 3 - (intOf i).toNat)
  case atStart => exact ⟨0, by omega, rfl, fun j hj => by omega, (Blk.new w _ _).alloc _, blkAt (Blk.new (w.alloc _) _ _) (by simp), balloc (alloc_below _ _) _⟩
  case round =>
    obtain ⟨k, hk, rfl, hz, hkb, hkv, hb⟩ := hrel
    have HZ := Lib.hid hz
    have KB := Lib.hid hkb
    have KV := Lib.hid hkv
    have HB := Lib.hid hb
    clear hz hkb hkv hb
    by_cases hlt : k < 3
    · have cx := KB.out.at6 (k := k) (by omega)
      have cy := KB.out.at6 (k := 3 + k) (by omega)
      have cz := KV.out.atv hlt
      obtain ⟨x, hx⟩ : ∃ x, x = B k := ⟨_, rfl⟩
      obtain ⟨y, hy⟩ : ∃ y, y = B (3 + k) := ⟨_, rfl⟩
      obtain ⟨z, hz⟩ : ∃ z, z = V k := ⟨_, rfl⟩
      have HS : Hid (inAt B V k = (!(decide (z < x)) && !(decide (y < z)))) := Lib.hid (by rw [hx, hy, hz]; rfl)
      rw [← hx] at cx
      rw [← hy] at cy
      rw [← hz] at cz
      clear hx hy hz
      have hk0 : (0 : Int) ≤ (k : Int) := by omega
      have hk3 : (k : Int) < 3 := by omega
      have HBad : Hid (inAt B V k = false → inBox B V = false) := Lib.hid (fun h => by
        unfold inBox
        obtain rfl | rfl | rfl : k = 0 ∨ k = 1 ∨ k = 2 := by omega
        · rw [h]; rfl
        · rw [h, Bool.and_false]; rfl
        · rw [h, Bool.and_false])
      by_cases h1 : z < x
      · have d1 : decide (z < x) = true := decide_eq_true h1
        clear h1
        go_wp2
        go_quiet (fail)
        go_wp2
        go_ret
        exact ⟨ret_bool (HBad.out (by rw [HS.out, d1]; rfl)).symm, Go.below_drewN HB.out nq⟩
      · have d1 : decide (z < x) = false := decide_eq_false h1
        clear h1
        by_cases h2 : y < z
        · have d2 : decide (y < z) = true := decide_eq_true h2
          clear h2
          go_wp2
          go_quiet (fail)
          go_wp2
          go_ret
          exact ⟨ret_bool (HBad.out (by rw [HS.out, d2, Bool.and_comm]; rfl)).symm, Go.below_drewN HB.out nq⟩
        · have d2 : decide (y < z) = false := decide_eq_false h2
          clear h2
          go_wp2
          go_quiet (fail)
          go_wp2
          go_roundw
          case rel => exact ⟨k + 1, by omega, by go_num, bok_step HZ.out (by rw [HS.out, d1, d2]; rfl), KB.out.drewN nq, KV.out.drewN nq, Go.below_drewN HB.out nq⟩
          case measure => simp [intOf] <;> omega
    · obtain rfl : k = 3 := by omega
      go_wp2
      go_ret
      exact ⟨ret_bool (by unfold inBox; rw [HZ.out 0 (by omega), HZ.out 1 (by omega), HZ.out 2 (by omega)]; rfl), HB.out⟩

end Go.Proofs.Ythdgldoailjhhaa
