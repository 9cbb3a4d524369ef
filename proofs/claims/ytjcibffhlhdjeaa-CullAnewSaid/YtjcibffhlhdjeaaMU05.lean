/-
  8 texts in one file, each with its own heading.
-/
import Derived.Test.YtjcibffhlhdjeaaMU04
import Derived.Deep.QuietTactic
import Derived.Maps.AppendAt
import Derived.Deep.RegionHeld3
import Derived.Maps.Own
/-
  Parts as tuples; what the reference's With of layer 6 answers.
-/
namespace Go.Proofs.Ytjcibffhlhdjeaa
open Go.RowKit

abbrev PT := Int × (Nat → Int) × Int × (Nat → Int) × Int × Int × Bool × Int
def pl (P : PT) : List Value := PL P.1 P.2.1 P.2.2.1 P.2.2.2.1 P.2.2.2.2.1 P.2.2.2.2.2.1 P.2.2.2.2.2.2.1 P.2.2.2.2.2.2.2
def zT : PT := (0, zI, 0, zI, 0, 0, false, 0)
def rightT (P : PT) : Bool := rightP P.1 P.2.1 P.2.2.1 P.2.2.2.1 P.2.2.2.2.1 P.2.2.2.2.2.1 P.2.2.2.2.2.2.1 P.2.2.2.2.2.2.2
def prP (N V : Nat → Int) (j : Nat) : Int := mulV (N j) (V j)
def prPE (N V : Nat → Int) (j : Nat) : Int := mulE (N j) (V j)
def prE (N V : Nat → Int) : Int := first3 (prPE N V 0) (prPE N V 1) (prPE N V 2)
def prV (N V : Nat → Int) (j : Nat) : Int := gate (prE N V) (prP N V j)

set_option maxHeartbeats 1000000 in
theorem products_any (N V : Nat → Int) (w : World) :
    Calls Try.prog 81 #[.agg #[.int .i64 (N 0), .int .i64 (N 1), .int .i64 (N 2)], .agg #[.int .i64 (V 0), .int .i64 (V 1), .int .i64 (V 2)]] w fun e w' => e = .returned (.tuple #[.agg #[.int .i64 (prV N V 0), .int .i64 (prV N V 1), .int .i64 (prV N V 2)], .int .i64 (prE N V)]) ∧ Below w.heap.size w w' := by
  go_enter Try.func81, Try.ntmps81
  go_wp2
  go_loopw [10] (fun i wr => ∃ k : Nat, k ≤ 3 ∧ i = .int .i64 k ∧ (∀ j, j < k → prPE N V j = 0) ∧ wr.rowIs (w.heap.size + 3) 38 3 (laidTo (prP N V) k) ∧ Blk wr w.heap.size 38 #[.int .i64 (N 0), .int .i64 (N 1), .int .i64 (N 2)] ∧ Blk wr (w.heap.size + 1) 38 #[.int .i64 (V 0), .int .i64 (V 1), .int .i64 (V 2)] ∧ Blk wr (w.heap.size + 2) 38 #[.int .i64 0, .int .i64 0, .int .i64 0] ∧ Below w.heap.size w wr) (fun i _ => 3 - (intOf i).toNat)
  case atStart => exact ⟨0, by omega, rfl, fun j hj => by omega, rowIs_at (laid_start _ _ _) (by simp), (((Blk.new w _ _).alloc _).alloc _).alloc _, (blkAt (((Blk.new (w.alloc _) _ _).alloc _).alloc _) (by simp)), (blkAt ((Blk.new ((w.alloc _).alloc _) _ _).alloc _) (by simp)), balloc (balloc (balloc (alloc_below _ _) _) _) _⟩
  case round =>
    obtain ⟨k, hk, rfl, hz, hrow, hbn, hbv, hres, hb⟩ := hrel
    have HZ := Lib.hid hz
    have HRow := Lib.hid hrow
    have HN := Lib.hid hbn
    have HV := Lib.hid hbv
    have HRes := Lib.hid hres
    have HB := Lib.hid hb
    clear hz hrow hbn hbv hres hb
    by_cases hlt : k < 3
    · have cx := Blk.atv HN.out hlt
      have cy := Blk.atv HV.out hlt
      obtain ⟨x, hx⟩ : ∃ x, x = N k := ⟨_, rfl⟩
      obtain ⟨y, hy⟩ : ∃ y, y = V k := ⟨_, rfl⟩
      have HD : Hid (prP N V k = mulV x y ∧ prPE N V k = mulE x y) := Lib.hid (by unfold prP prPE; rw [hx, hy]; exact ⟨rfl, rfl⟩)
      rw [← hx] at cx
      rw [← hy] at cy
      clear hx hy
      have hk0 : (0 : Int) ≤ (k : Int) := by omega
      have hk3 : (k : Int) < 3 := by omega
      go_wp2
      go_region_held3 (fun w' => w'.cell? ⟨w.heap.size, k, none⟩ = some (.int .i64 x) ∧ w'.cell? ⟨w.heap.size + 1, k, none⟩ = some (.int .i64 y)) (first | exact ⟨cell_keepD b2 cx, cell_keepD b2 cy⟩ | go_keep)
        (first | (go_at_call 90; refine (mul_any _ _ _).mono ?_; rintro e w2 ⟨rfl, b2⟩))
      have B2 := Lib.hid (bdrew b2)
      clear b2 cx cy
      have HRow2 := Lib.hid (HRow.out.of_block (B2.out.block _ HRow.out.lt))
      have HN2 := Lib.hid (Blk.keep HN.out B2.out)
      have HV2 := Lib.hid (Blk.keep HV.out B2.out)
      have HRes2 := Lib.hid (Blk.keep HRes.out B2.out)
      have HB2 := Lib.hid (bthen HB.out B2.out)
      clear B2 HRow HN HV HRes HB
      by_cases he : mulE x y = 0
      · have HEk := Lib.hid he
        have he' : (mulE x y != 0) = false := by rw [he]; rfl
        clear he
        have rc := HRow2.out.cell (i := k) (by omega)
        have rf := HRow2.out.frozen k
        unfold laidTo at rc
        simp only [Nat.lt_irrefl, if_false] at rc
        go_wp2
        go_roundw
        case rel => exact ⟨k + 1, by omega, by go_num, err_step HZ.out (by rw [HD.out.2]; exact HEk.out), (HRow2.out.set k _).congr (fun i _ => by rw [← HD.out.1]; exact laid_step _ k i), HN2.out.far (by simp; omega) _, HV2.out.far (by simp) _, HRes2.out.far (by simp) _, HB2.out.setCell (by simp; omega) _⟩
        case measure => simp [intOf]; omega
      · have HEk := Lib.hid he
        have he' : (mulE x y != 0) = true := by simpa using he
        clear he
        obtain ⟨z0, z1, z2, g0, g1, g2⟩ := blk3 HRes2.out
        go_wp2
        have e1 : prE N V = mulE x y := by
          rw [← HD.out.2]
          exact first3_at (e := prPE N V) hlt HZ.out (by rw [HD.out.2]; exact HEk.out)
        have e2 : ∀ j, prV N V j = 0 := fun j => by unfold prV gate; rw [e1, if_neg HEk.out]
        exact bodyPost_ret (v := .tuple #[.agg #[.int .i64 0, .int .i64 0, .int .i64 0], .int .i64 (mulE x y)]) (by simp [results, Try.results81, go_sem, z0, z1, z2]) rfl ⟨by rw [e1, e2, e2, e2], bset3 HB2.out (by omega)⟩
    · obtain rfl : k = 3 := by omega
      have e1 : prE N V = 0 := first3_none (e := prPE N V) HZ.out
      have HE := Lib.hid e1
      clear e1
      have o0 : wr.cell? ⟨w.heap.size + 3, 0, none⟩ = some (.int .i64 (prP N V 0)) := HRow.out.cell (i := 0) (by omega)
      have o1 : wr.cell? ⟨w.heap.size + 3, 1, none⟩ = some (.int .i64 (prP N V 1)) := HRow.out.cell (i := 1) (by omega)
      have o2 : wr.cell? ⟨w.heap.size + 3, 2, none⟩ = some (.int .i64 (prP N V 2)) := HRow.out.cell (i := 2) (by omega)
      obtain ⟨z0, z1, z2, g0, g1, g2⟩ := blk3 HRes.out
      go_wp2
      have e2 : ∀ j, prV N V j = prP N V j := fun j => by unfold prV; rw [HE.out]; rfl
      exact bodyPost_ret (v := .tuple #[.agg #[.int .i64 (prP N V 0), .int .i64 (prP N V 1), .int .i64 (prP N V 2)], .int .i64 0]) (by simp [results, Try.results81, go_sem, z0, z1, z2]) rfl ⟨by rw [HE.out, e2, e2, e2], bset3 HB.out (by omega)⟩

set_option maxHeartbeats 1000000 in
theorem total_any (x y z t : Int) (w : World) :
    Calls Try.prog 82 #[.agg #[.int .i64 x, .int .i64 y, .int .i64 z], .int .i64 t] w fun e w' => e = .returned (.tuple #[.int .i64 (addV [x, y, z, t]), .int .i64 (addE [x, y, z, t])]) ∧ Below w.heap.size w w' := by
  go_enter Try.func82, Try.ntmps82
  go_wp2_with fail
  refine (add_any _ _ _ [x, y, z, t] _ (row4 (P := fun j => [x, y, z, t].getD j 0) (blkAt (Blk.new _ _ _) (by simp)))).mono ?_
  rintro e w1 ⟨rfl, b1⟩
  go_wp2
  go_ret2
  exact ⟨rfl, bthen (balloc (alloc_below _ _) _) b1⟩

end Go.Proofs.Ytjcibffhlhdjeaa
