/-
  What package affine's along and column answer: a row's products with a vector, and one number more, added; a column.
-/
import Derived.Test.YthdgldoailjhhaaAffD
namespace Go.Proofs.Ythdgldoailjhhaa
open Go.RowKit

/-- the products of a row and a vector, place by place -/
def alP (M : Nat → Int) (r : Nat) (V : Nat → Int) (j : Nat) : Int := mulV (M (4 * r + j)) (V j)
def alPE (M : Nat → Int) (r : Nat) (V : Nat → Int) (j : Nat) : Int := mulE (M (4 * r + j)) (V j)
def alF (M : Nat → Int) (r : Nat) (V : Nat → Int) : Int := first3 (alPE M r V 0) (alPE M r V 1) (alPE M r V 2)
/-- these, and one number more, added -/
def alL (M : Nat → Int) (r : Nat) (V : Nat → Int) (l : Int) : List Int := [alP M r V 0, alP M r V 1, alP M r V 2, l]
def alV (M : Nat → Int) (r : Nat) (V : Nat → Int) (l : Int) : Int := if alF M r V = 0 then addV (alL M r V l) else 0
def alE (M : Nat → Int) (r : Nat) (V : Nat → Int) (l : Int) : Int := if alF M r V = 0 then addE (alL M r V l) else alF M r V

theorem al_yes {M : Nat → Int} {r : Nat} {V : Nat → Int} (l : Int) (h : alF M r V = 0) : alV M r V l = addV (alL M r V l) ∧ alE M r V l = addE (alL M r V l) := by
  unfold alV alE; rw [if_pos h, if_pos h]; exact ⟨rfl, rfl⟩
theorem al_no {M : Nat → Int} {r : Nat} {V : Nat → Int} (l : Int) (h : alF M r V ≠ 0) : alV M r V l = 0 ∧ alE M r V l = alF M r V := by
  unfold alV alE; rw [if_neg h, if_neg h]; exact ⟨rfl, rfl⟩

theorem at_of (r p n : Nat) (w : World) (hr : r < 3) (hp : p < 4) (hn : n = 4 * r + p) :
    Calls Try.prog 40 #[.int .i64 r, .int .i64 p] w fun e w' => e = .returned (.int .i64 (n : Int)) ∧ w = w' := by
  subst hn; exact at_any r p w hr hp
theorem at3_of (r n : Nat) (w : World) (hr : r < 3) (hn : n = 4 * r + 3) :
    Calls Try.prog 40 #[.int .i64 r, .int .i64 3] w fun e w' => e = .returned (.int .i64 (n : Int)) ∧ w = w' := by
  subst hn; exact at_last r w hr

/-- the four numbers that are added, so far -/
def termTo (f : Nat → Int) (l : Int) (k j : Nat) : Value := if j = 3 then .int .i64 l else laidTo f k j
theorem term_step (f : Nat → Int) (l : Int) (k j : Nat) (hk : k < 3) : (if j = k then Value.int .i64 (f k) else termTo f l k j) = termTo f l (k + 1) j := by
  unfold termTo
  by_cases e : j = 3
  · rw [if_neg (by omega), if_pos e, if_pos e]
  · rw [if_neg e, if_neg e]; exact laid_step f k j
theorem term_start (w : World) (t : TypeId) (f : Nat → Int) (l : Int) : (w.alloc (.cells #[.int .i64 0, .int .i64 0, .int .i64 0, .int .i64 l] t)).rowIs w.heap.size t 4 (termTo f l 0) := by
  refine (World.rowIs_alloc w _ t (termTo f l 0) (fun i hi => ?_))
  obtain rfl | rfl | rfl | rfl : i = 0 ∨ i = 1 ∨ i = 2 ∨ i = 3 := by simp at hi; omega
  · rfl
  · rfl
  · rfl
  · rfl
theorem rowIs_at {w : World} {b b' : Nat} {t : TypeId} {n : Nat} {f : Nat → Value} (h : w.rowIs b t n f) (e : b = b') : w.rowIs b' t n f := e ▸ h

set_option maxHeartbeats 1000000 in
theorem along_any (M : Nat → Int) (r : Nat) (V : Nat → Int) (l : Int) (w : World) (hr : r < 3) :
    Calls Try.prog 39 #[.agg #[.int .i64 (M 0), .int .i64 (M 1), .int .i64 (M 2), .int .i64 (M 3), .int .i64 (M 4), .int .i64 (M 5), .int .i64 (M 6), .int .i64 (M 7), .int .i64 (M 8), .int .i64 (M 9), .int .i64 (M 10), .int .i64 (M 11)], .int .i64 r, .agg #[.int .i64 (V 0), .int .i64 (V 1), .int .i64 (V 2)], .int .i64 l] w fun e w' => e = .returned (.tuple #[.int .i64 (alV M r V l), .int .i64 (alE M r V l)]) ∧ Below w.heap.size w w' := by
  go_enter Try.func39, Try.ntmps39
  go_wp2
  go_loopw [16] (fun i wr => ∃ k : Nat, k ≤ 3 ∧ i = .int .i64 k ∧ (∀ j, j < k → alPE M r V j = 0) ∧ wr.rowIs (w.heap.size + 2) 83 4 (termTo (alP M r V) l k) ∧ BM wr w.heap.size M ∧ BV3 wr (w.heap.size + 1) V ∧ Below w.heap.size w wr) (fun i _ => 3 - (intOf i).toNat)
  case atStart => exact ⟨0, by omega, rfl, fun j hj => by omega, rowIs_at (term_start _ _ _ _) (by simp), ((Blk.new w _ _).alloc _).alloc _, (blkAt ((Blk.new (w.alloc _) _ _).alloc _) (by simp)), balloc (balloc (alloc_below _ _) _) _⟩
  case round =>
    obtain ⟨k, hk, rfl, hz, hrow, hbm, hbv, hb⟩ := hrel
    have HZ := Lib.hid hz
    have HRow := Lib.hid hrow
    have HM := Lib.hid hbm
    have HV := Lib.hid hbv
    have HB := Lib.hid hb
    clear hz hrow hbm hbv hb
    by_cases hlt : k < 3
    · obtain ⟨n, hn⟩ : ∃ n, n = 4 * r + k := ⟨_, rfl⟩
      have HN := Lib.hid hn
      have hn12 : n < 12 := by omega
      clear hn
      have cx := Blk.at12 HM.out hn12
      have cy := Blk.at3 HV.out hlt
      obtain ⟨x, hx⟩ : ∃ x, x = M n := ⟨_, rfl⟩
      obtain ⟨y, hy⟩ : ∃ y, y = V k := ⟨_, rfl⟩
      have HD : Hid (alP M r V k = mulV x y ∧ alPE M r V k = mulE x y) := Lib.hid (by unfold alP alPE; rw [hx, hy, HN.out]; exact ⟨rfl, rfl⟩)
      rw [← hx] at cx
      rw [← hy] at cy
      clear hx hy
      have hk0 : (0 : Int) ≤ (k : Int) := by omega
      have hk3 : (k : Int) < 3 := by omega
      have hn0 : (0 : Int) ≤ (n : Int) := by omega
      have hn1 : (n : Int) < 12 := by omega
      go_wp2
      go_region_held3 (fun w' => w'.cell? ⟨w.heap.size, n, none⟩ = some (.int .i64 x) ∧ w'.cell? ⟨w.heap.size + 1, k, none⟩ = some (.int .i64 y)) (first | exact ⟨cell_keepD b2 cx, cell_keepD b2 cy⟩ | go_keep)
        (first | (go_at_call 40; refine (at_of r k n _ hr (by omega) HN.out).mono ?_; rintro e w1 ⟨rfl, rfl⟩) | (go_at_call 50; refine (mul_any _ _ _).mono ?_; rintro e w2 ⟨rfl, b2⟩))
      have B2 := Lib.hid (bdrew b2)
      clear b2 cx cy
      have HRow2 := Lib.hid (HRow.out.of_block (B2.out.block _ HRow.out.lt))
      have HM2 := Lib.hid (Blk.keep HM.out B2.out)
      have HV2 := Lib.hid (Blk.keep HV.out B2.out)
      have HB2 := Lib.hid (bthen HB.out B2.out)
      clear B2
      by_cases he : mulE x y = 0
      · have HEk := Lib.hid he
        have he' : (mulE x y != 0) = false := by rw [he]; rfl
        clear he
        have rc := HRow2.out.cell (i := k) (by omega)
        have rf := HRow2.out.frozen k
        have hk3' : k ≠ 3 := by omega
        unfold termTo laidTo at rc
        simp only [Nat.lt_irrefl, if_false, hk3'] at rc
        go_wp2
        go_roundw
        case rel => exact ⟨k + 1, by omega, by go_num, err_step HZ.out (by rw [HD.out.2]; exact HEk.out), (HRow2.out.set k _).congr (fun i _ => by rw [← HD.out.1]; exact term_step _ _ k i hlt), HM2.out.far (by simp; omega) _, HV2.out.far (by simp) _, HB2.out.setCell (by simp; omega) _⟩
        case measure => simp [intOf]; omega
      · have HEk := Lib.hid he
        have he' : (mulE x y != 0) = true := by simpa using he
        clear he
        go_wp2
        go_ret2
        have e1 : alF M r V = mulE x y := by
          rw [← HD.out.2]
          exact first3_at (e := alPE M r V) hlt HZ.out (by rw [HD.out.2]; exact HEk.out)
        have e2 : alF M r V ≠ 0 := by rw [e1]; exact HEk.out
        exact ⟨by rw [(al_no l e2).1, (al_no l e2).2, e1]; rfl, HB2.out⟩
    · obtain rfl : k = 3 := by omega
      have hrow : Row wr (some ⟨w.heap.size + 2, 0, none⟩) 4 (alL M r V l) := row_of_is rfl (by omega) (HRow.out.congr (fun i hi => by
        obtain rfl | rfl | rfl | rfl : i = 0 ∨ i = 1 ∨ i = 2 ∨ i = 3 := by omega
        · rfl
        · rfl
        · rfl
        · rfl))
      have HR := Lib.hid hrow
      clear hrow
      go_wp2_with fail
      refine (add_any _ _ _ _ _ HR.out).mono ?_
      rintro e w2 ⟨rfl, b2⟩
      have HB2 := Lib.hid (bthen HB.out b2)
      clear b2
      go_wp2
      go_ret2
      have e1 : alF M r V = 0 := first3_none (e := alPE M r V) HZ.out
      exact ⟨by rw [(al_yes l e1).1, (al_yes l e1).2]; rfl, HB2.out⟩

/-- the number that each row has at a place -/
def colM (M : Nat → Int) (p j : Nat) : Int := M (4 * j + p)

end Go.Proofs.Ythdgldoailjhhaa
