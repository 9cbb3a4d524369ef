/-
  What package shape's products, total and split answer.
-/
import Derived.Test.YthdgldoailjhhaaShpH
namespace Go.Proofs.Ythdgldoailjhhaa
open Go.RowKit

/-- the products of two vectors' numbers, place by place -/
def prP (N V : Nat → Int) (j : Nat) : Int := mulV (N j) (V j)
def prPE (N V : Nat → Int) (j : Nat) : Int := mulE (N j) (V j)
def prE (N V : Nat → Int) : Int := first3 (prPE N V 0) (prPE N V 1) (prPE N V 2)
def prV (N V : Nat → Int) (j : Nat) : Int := gate (prE N V) (prP N V j)

set_option maxHeartbeats 1000000 in
theorem products_any (N V : Nat → Int) (w : World) :
    Calls Try.prog 45 #[.agg #[.int .i64 (N 0), .int .i64 (N 1), .int .i64 (N 2)], .agg #[.int .i64 (V 0), .int .i64 (V 1), .int .i64 (V 2)]] w fun e w' => e = .returned (.tuple #[.agg #[.int .i64 (prV N V 0), .int .i64 (prV N V 1), .int .i64 (prV N V 2)], .int .i64 (prE N V)]) ∧ Below w.heap.size w w' := by
  go_enter Try.func45, Try.ntmps45
  go_wp2
  go_loopw [10] (fun i wr => ∃ k : Nat, k ≤ 3 ∧ i = .int .i64 k ∧ (∀ j, j < k → prPE N V j = 0) ∧ wr.rowIs (w.heap.size + 3) 27 3 (laidTo (prP N V) k) ∧ Blk wr w.heap.size 27 #[.int .i64 (N 0), .int .i64 (N 1), .int .i64 (N 2)] ∧ Blk wr (w.heap.size + 1) 27 #[.int .i64 (V 0), .int .i64 (V 1), .int .i64 (V 2)] ∧ Blk wr (w.heap.size + 2) 27 #[.int .i64 0, .int .i64 0, .int .i64 0] ∧ Below w.heap.size w wr) (fun i _ => 3 - (intOf i).toNat)
  case atStart => exact ⟨0, by omega, rfl, fun j hj => by omega, rowIs_at (laid_start _ _ _) (by simp), (((Blk.new w _ _).alloc _).alloc _).alloc _, (blkAt (((Blk.new (w.alloc _) _ _).alloc _).alloc _) (by simp)), (blkAt ((Blk.new ((w.alloc _).alloc _) _ _).alloc _) (by simp)), balloc (balloc (balloc (alloc_below _ _) _) _) _⟩
  case round =>
    obtain ⟨k, hk, rfl, hz, hrow, hbn, hbv, hres, hb⟩ := hrel
    have HZ := Lib.hid hz
    have HRow := Lib.hid hrow
    have HN := Lib.hid hbn
    have HV := Lib.hid hbv
    have HRes := Lib.hid hres
    have HB := Lib.hid hb
    clear hz hrow hbn hbv hres hb
    by_cases hlt : k < 3
    · have cx := Blk.atv HN.out hlt
      have cy := Blk.atv HV.out hlt
      obtain ⟨x, hx⟩ : ∃ x, x = N k := ⟨_, rfl⟩
      obtain ⟨y, hy⟩ : ∃ y, y = V k := ⟨_, rfl⟩
      have HD : Hid (prP N V k = mulV x y ∧ prPE N V k = mulE x y) := Lib.hid (by unfold prP prPE; rw [hx, hy]; exact ⟨rfl, rfl⟩)
      rw [← hx] at cx
      rw [← hy] at cy
      clear hx hy
      have hk0 : (0 : Int) ≤ (k : Int) := by omega
      have hk3 : (k : Int) < 3 := by omega
      go_wp2
      go_region_held3 (fun w' => w'.cell? ⟨w.heap.size, k, none⟩ = some (.int .i64 x) ∧ w'.cell? ⟨w.heap.size + 1, k, none⟩ = some (.int .i64 y)) (first | exact ⟨cell_keepD b2 cx, cell_keepD b2 cy⟩ | go_keep)
        (first | (go_at_call 50; refine (mul_any _ _ _).mono ?_; rintro e w2 ⟨rfl, b2⟩))
      have B2 := Lib.hid (bdrew b2)
      clear b2 cx cy
      have HRow2 := Lib.hid (HRow.out.of_block (B2.out.block _ HRow.out.lt))
      have HN2 := Lib.hid (Blk.keep HN.out B2.out)
      have HV2 := Lib.hid (Blk.keep HV.out B2.out)
      have HRes2 := Lib.hid (Blk.keep HRes.out B2.out)
      have HB2 := Lib.hid (bthen HB.out B2.out)
      clear B2 HRow HN HV HRes HB
      by_cases he : mulE x y = 0
      · have HEk := Lib.hid he
        have he' : (mulE x y != 0) = false := by rw [he]; rfl
        clear he
        have rc := HRow2.out.cell (i := k) (by omega)
        have rf := HRow2.out.frozen k
        unfold laidTo at rc
        simp only [Nat.lt_irrefl, if_false] at rc
        go_wp2
        go_roundw
        case rel => exact ⟨k + 1, by omega, by go_num, err_step HZ.out (by rw [HD.out.2]; exact HEk.out), (HRow2.out.set k _).congr (fun i _ => by rw [← HD.out.1]; exact laid_step _ k i), HN2.out.far (by simp; omega) _, HV2.out.far (by simp) _, HRes2.out.far (by simp) _, HB2.out.setCell (by simp; omega) _⟩
        case measure => simp [intOf]; omega
      · have HEk := Lib.hid he
        have he' : (mulE x y != 0) = true := by simpa using he
        clear he
        obtain ⟨z0, z1, z2, g0, g1, g2⟩ := blk3 HRes2.out
        go_wp2
        have e1 : prE N V = mulE x y := by
          rw [← HD.out.2]
          exact first3_at (e := prPE N V) hlt HZ.out (by rw [HD.out.2]; exact HEk.out)
        have e2 : ∀ j, prV N V j = 0 := fun j => by unfold prV gate; rw [e1, if_neg HEk.out]
        exact bodyPost_ret (v := .tuple #[.agg #[.int .i64 0, .int .i64 0, .int .i64 0], .int .i64 (mulE x y)]) (by simp [results, Try.results45, go_sem, z0, z1, z2]) rfl ⟨by rw [e1, e2, e2, e2], bset3 HB2.out (by omega)⟩
    · obtain rfl : k = 3 := by omega
      have e1 : prE N V = 0 := first3_none (e := prPE N V) HZ.out
      have HE := Lib.hid e1
      clear e1
      have o0 : wr.cell? ⟨w.heap.size + 3, 0, none⟩ = some (.int .i64 (prP N V 0)) := HRow.out.cell (i := 0) (by omega)
      have o1 : wr.cell? ⟨w.heap.size + 3, 1, none⟩ = some (.int .i64 (prP N V 1)) := HRow.out.cell (i := 1) (by omega)
      have o2 : wr.cell? ⟨w.heap.size + 3, 2, none⟩ = some (.int .i64 (prP N V 2)) := HRow.out.cell (i := 2) (by omega)
      obtain ⟨z0, z1, z2, g0, g1, g2⟩ := blk3 HRes.out
      go_wp2
      have e2 : ∀ j, prV N V j = prP N V j := fun j => by unfold prV; rw [HE.out]; rfl
      exact bodyPost_ret (v := .tuple #[.agg #[.int .i64 (prP N V 0), .int .i64 (prP N V 1), .int .i64 (prP N V 2)], .int .i64 0]) (by simp [results, Try.results45, go_sem, z0, z1, z2]) rfl ⟨by rw [HE.out, e2, e2, e2], bset3 HB.out (by omega)⟩

set_option maxHeartbeats 1000000 in
theorem total_any (x y z t : Int) (w : World) :
    Calls Try.prog 46 #[.agg #[.int .i64 x, .int .i64 y, .int .i64 z], .int .i64 t] w fun e w' => e = .returned (.tuple #[.int .i64 (addV [x, y, z, t]), .int .i64 (addE [x, y, z, t])]) ∧ Below w.heap.size w w' := by
  go_enter Try.func46, Try.ntmps46
  go_wp2_with fail
  refine (add_any _ _ _ [x, y, z, t] _ (row4 (P := fun j => [x, y, z, t].getD j 0) (blkAt (Blk.new _ _ _) (by simp)))).mono ?_
  rintro e w1 ⟨rfl, b1⟩
  go_wp2
  go_ret2
  exact ⟨rfl, bthen (balloc (alloc_below _ _) _) b1⟩

/-- a row of a matrix as a plane -/
def spM (M : Nat → Int) (r k : Nat) : Int := M (4 * r + k)

set_option maxHeartbeats 2000000 in
theorem split_any (M : Nat → Int) (r : Nat) (w : World) (hr : r < 3) :
    Calls Try.prog 31 #[.agg #[.int .i64 (M 0), .int .i64 (M 1), .int .i64 (M 2), .int .i64 (M 3), .int .i64 (M 4), .int .i64 (M 5), .int .i64 (M 6), .int .i64 (M 7), .int .i64 (M 8), .int .i64 (M 9), .int .i64 (M 10), .int .i64 (M 11)], .int .i64 r] w fun e w' => e = .returned (.agg #[.int .i64 (spM M r 0), .int .i64 (spM M r 1), .int .i64 (spM M r 2), .int .i64 (spM M r 3)]) ∧ Below w.heap.size w w' := by
  obtain ⟨n0, hn0⟩ : ∃ n, n = 4 * r := ⟨_, rfl⟩
  obtain ⟨n1, hn1⟩ : ∃ n, n = 4 * r + 1 := ⟨_, rfl⟩
  obtain ⟨n2, hn2⟩ : ∃ n, n = 4 * r + 2 := ⟨_, rfl⟩
  obtain ⟨n3, hn3⟩ : ∃ n, n = 4 * r + 3 := ⟨_, rfl⟩
  have hw0 : IntKind.i64.wrap (4 * (r : Int)) = (n0 : Int) := by rw [show 4 * (r : Int) = (n0 : Int) by omega]; exact IntWalk.i64_in _ (by omega)
  have hw1 : IntKind.i64.wrap ((n0 : Int) + 1) = (n1 : Int) := by rw [show (n0 : Int) + 1 = (n1 : Int) by omega]; exact IntWalk.i64_in _ (by omega)
  have hw2 : IntKind.i64.wrap ((n0 : Int) + 2) = (n2 : Int) := by rw [show (n0 : Int) + 2 = (n2 : Int) by omega]; exact IntWalk.i64_in _ (by omega)
  have hw3 : IntKind.i64.wrap ((n0 : Int) + 3) = (n3 : Int) := by rw [show (n0 : Int) + 3 = (n3 : Int) by omega]; exact IntWalk.i64_in _ (by omega)
  have K := fun o => (Blk.new w 25 #[.int .i64 (M 0), .int .i64 (M 1), .int .i64 (M 2), .int .i64 (M 3), .int .i64 (M 4), .int .i64 (M 5), .int .i64 (M 6), .int .i64 (M 7), .int .i64 (M 8), .int .i64 (M 9), .int .i64 (M 10), .int .i64 (M 11)]).alloc o
  have c0 := fun o => Blk.at12 (K o) (k := n0) (by omega)
  have c1 := fun o => Blk.at12 (K o) (k := n1) (by omega)
  have c2 := fun o => Blk.at12 (K o) (k := n2) (by omega)
  have c3 := fun o => Blk.at12 (K o) (k := n3) (by omega)
  obtain ⟨x, hx⟩ : ∃ x, x = M n0 := ⟨_, rfl⟩
  obtain ⟨y, hy⟩ : ∃ y, y = M n1 := ⟨_, rfl⟩
  obtain ⟨z, hz⟩ : ∃ z, z = M n2 := ⟨_, rfl⟩
  obtain ⟨l, hl⟩ : ∃ l, l = M n3 := ⟨_, rfl⟩
  have HD : Hid (spM M r 0 = x ∧ spM M r 1 = y ∧ spM M r 2 = z ∧ spM M r 3 = l) := Lib.hid (by unfold spM; rw [hx, hy, hz, hl, hn0, hn1, hn2, hn3]; exact ⟨rfl, rfl, rfl, rfl⟩)
  rw [← hx] at c0
  rw [← hy] at c1
  rw [← hz] at c2
  rw [← hl] at c3
  have b00 : (0 : Int) ≤ (n0 : Int) := by omega
  have b01 : (n0 : Int) < 12 := by omega
  have b10 : (0 : Int) ≤ (n1 : Int) := by omega
  have b11 : (n1 : Int) < 12 := by omega
  have b20 : (0 : Int) ≤ (n2 : Int) := by omega
  have b21 : (n2 : Int) < 12 := by omega
  have b30 : (0 : Int) ≤ (n3 : Int) := by omega
  have b31 : (n3 : Int) < 12 := by omega
  have hr0 : (0 : Int) ≤ (r : Int) := by omega
  have HC := Lib.hid (fun o => And.intro (c0 o) (And.intro (c1 o) (And.intro (c2 o) (c3 o))))
  clear hx hy hz hl hn0 hn1 hn2 hn3 K c0 c1 c2 c3
  go_enter Try.func31, Try.ntmps31
  go_wp2
  go_region_held3 (fun w' => w'.cell? ⟨w.heap.size, n0, none⟩ = some (.int .i64 x) ∧ w'.cell? ⟨w.heap.size, n1, none⟩ = some (.int .i64 y) ∧ w'.cell? ⟨w.heap.size, n2, none⟩ = some (.int .i64 z) ∧ w'.cell? ⟨w.heap.size, n3, none⟩ = some (.int .i64 l)) (first | exact HC.out _)
    (first | fail)
  go_wp2
  exact bodyPost_ret (v := .agg #[.int .i64 x, .int .i64 y, .int .i64 z, .int .i64 l]) (by simp [results, Try.results31, go_sem]) rfl ⟨by rw [HD.out.1, HD.out.2.1, HD.out.2.2.1, HD.out.2.2.2], bdrewn (balloc (alloc_below _ _) _)⟩

end Go.Proofs.Ythdgldoailjhhaa
