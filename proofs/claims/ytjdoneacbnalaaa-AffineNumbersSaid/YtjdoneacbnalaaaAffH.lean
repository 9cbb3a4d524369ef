/-
  What the reference's Two of layer 3 answers, of two matrices that may be.
-/
import Derived.Test.YtjdoneacbnalaaaAffG
namespace Go.Proofs.Ytjdoneacbnalaaa
open Go.RowKit

def v3 (x y z : Int) (j : Nat) : Int := [x, y, z].getD j 0
theorem rsum_xyz (M : Nat → Int) (r : Nat) (x y z l : Int) (w : World) (hr : r < 3) :
    Calls Try.prog 29 #[.agg #[.int .i64 (M 0), .int .i64 (M 1), .int .i64 (M 2), .int .i64 (M 3), .int .i64 (M 4), .int .i64 (M 5), .int .i64 (M 6), .int .i64 (M 7), .int .i64 (M 8), .int .i64 (M 9), .int .i64 (M 10), .int .i64 (M 11)], .int .i64 r, .agg #[.int .i64 x, .int .i64 y, .int .i64 z], .int .i64 l] w fun e w' => e = .returned (.tuple #[.int .i64 (alV M r (v3 x y z) l), .int .i64 (alE M r (v3 x y z) l)]) ∧ Below w.heap.size w w' := rsum_any M r (v3 x y z) l w hr

set_option maxHeartbeats 4000000 in
theorem rtwo_yes (A B : Nat → Int) (w : World) (okA : okM A = true) (okB' : okM B = true) :
    Calls Try.prog 25 #[.agg #[.int .i64 (A 0), .int .i64 (A 1), .int .i64 (A 2), .int .i64 (A 3), .int .i64 (A 4), .int .i64 (A 5), .int .i64 (A 6), .int .i64 (A 7), .int .i64 (A 8), .int .i64 (A 9), .int .i64 (A 10), .int .i64 (A 11)], .agg #[.int .i64 (B 0), .int .i64 (B 1), .int .i64 (B 2), .int .i64 (B 3), .int .i64 (B 4), .int .i64 (B 5), .int .i64 (B 6), .int .i64 (B 7), .int .i64 (B 8), .int .i64 (B 9), .int .i64 (B 10), .int .i64 (B 11)]] w fun e w' => e = .returned (.tuple #[.agg #[.int .i64 (prodM A B 0), .int .i64 (prodM A B 1), .int .i64 (prodM A B 2), .int .i64 (prodM A B 3), .int .i64 (prodM A B 4), .int .i64 (prodM A B 5), .int .i64 (prodM A B 6), .int .i64 (prodM A B 7), .int .i64 (prodM A B 8), .int .i64 (prodM A B 9), .int .i64 (prodM A B 10), .int .i64 (prodM A B 11)], .int .i64 (prodE2 A B)]) ∧ Below w.heap.size w w' := by
  have HO := Lib.hid (And.intro okA okB')
  clear okA okB'
  go_enter Try.func25, Try.ntmps25
  go_wp2_with fail
  refine (rmright_yes HO.out.1 _).mono ?_
  rintro e w1 ⟨rfl, b1⟩
  have KA := Lib.hid ((((Blk.new w 25 _).alloc _).alloc _).alloc _ |>.keep b1)
  have KB := Lib.hid (blkAt ((((Blk.new (w.alloc _) 25 _).alloc _).alloc _).keep b1) (g' := w.heap.size + 1) (by simp))
  have KR := Lib.hid (blkAt (((Blk.new ((w.alloc _).alloc _) 25 _).alloc _).keep b1) (g' := w.heap.size + 2) (by simp))
  have KO := Lib.hid ((laid12_start (((w.alloc (.cells #[.int .i64 (A 0), .int .i64 (A 1), .int .i64 (A 2), .int .i64 (A 3), .int .i64 (A 4), .int .i64 (A 5), .int .i64 (A 6), .int .i64 (A 7), .int .i64 (A 8), .int .i64 (A 9), .int .i64 (A 10), .int .i64 (A 11)] 25)).alloc (.cells #[.int .i64 (B 0), .int .i64 (B 1), .int .i64 (B 2), .int .i64 (B 3), .int .i64 (B 4), .int .i64 (B 5), .int .i64 (B 6), .int .i64 (B 7), .int .i64 (B 8), .int .i64 (B 9), .int .i64 (B 10), .int .i64 (B 11)] 25)).alloc (.cells #[.int .i64 0, .int .i64 0, .int .i64 0, .int .i64 0, .int .i64 0, .int .i64 0, .int .i64 0, .int .i64 0, .int .i64 0, .int .i64 0, .int .i64 0, .int .i64 0] 25)) 25 (pV A B)).of_block (b1.block _ (by simp)))
  have B1 := Lib.hid (bthen (balloc (balloc (balloc (alloc_below _ _) _) _) _) b1)
  clear b1
  obtain ⟨c0, c1, c2, c3, c4, c5, c6, c7, c8, c9, c10, c11, _, _, _, _, _, _, _, _, _, _, _, _⟩ := blk12 KB.out
  go_wp2_with fail
  refine (rmright_yes HO.out.2 _).mono ?_
  rintro e w2 ⟨rfl, b2⟩
  replace KA := Lib.hid (KA.out.keep b2)
  replace KB := Lib.hid (KB.out.keep b2)
  replace KR := Lib.hid (KR.out.keep b2)
  replace KO := Lib.hid (KO.out.of_block (b2.block _ KO.out.lt))
  replace B1 := Lib.hid (bthen B1.out b2)
  clear b2
  clear c0 c1 c2 c3 c4 c5 c6 c7 c8 c9 c10 c11
  go_wp2
  go_loopw [9] (fun i wr => ∃ r : Nat, r ≤ 3 ∧ i = .int .i64 r ∧ (∀ j, j < 4 * r → pE A B j = 0) ∧ wr.rowIs (w.heap.size + 3) 25 12 (laidTo (pV A B) (4 * r)) ∧ BM wr w.heap.size A ∧ BM wr (w.heap.size + 1) B ∧ Blk wr (w.heap.size + 2) 25 #[.int .i64 0, .int .i64 0, .int .i64 0, .int .i64 0, .int .i64 0, .int .i64 0, .int .i64 0, .int .i64 0, .int .i64 0, .int .i64 0, .int .i64 0, .int .i64 0] ∧ Below w.heap.size w wr) (fun i _ => 3 - (intOf i).toNat)
  case atStart => exact ⟨0, by omega, rfl, fun j hj => by omega, rowIs_at KO.out (by simp), KA.out, KB.out, KR.out, B1.out⟩
  case round =>
    clear KA KB KR KO B1
    obtain ⟨r, hr3, rfl, hz, hrow, ha, hbm, hres, hb⟩ := hrel
    have HZ := Lib.hid hz
    have HRow := Lib.hid hrow
    have HA := Lib.hid ha
    have HBm := Lib.hid hbm
    have HRes := Lib.hid hres
    have HB := Lib.hid hb
    clear hz hrow ha hbm hres hb
    by_cases hr : r < 3
    · have hrd : decide ((r : Int) < 3) = true := by simp; omega
      go_wp2
      go_loopw [10] (fun i wi => ∃ p : Nat, p ≤ 4 ∧ i = .int .i64 p ∧ (∀ j, j < 4 * r + p → pE A B j = 0) ∧ wi.rowIs (w.heap.size + 3) 25 12 (laidTo (pV A B) (4 * r + p)) ∧ BM wi w.heap.size A ∧ BM wi (w.heap.size + 1) B ∧ Blk wi (w.heap.size + 2) 25 #[.int .i64 0, .int .i64 0, .int .i64 0, .int .i64 0, .int .i64 0, .int .i64 0, .int .i64 0, .int .i64 0, .int .i64 0, .int .i64 0, .int .i64 0, .int .i64 0] ∧ Below w.heap.size w wi) (fun i _ => 4 - (intOf i).toNat)
      case atStart => exact ⟨0, by omega, rfl, HZ.out, HRow.out, HA.out, HBm.out, HRes.out, HB.out⟩
      case round =>
        clear HZ HRow HA HBm HRes HB
        obtain ⟨p, hp4, rfl, hz, hrow, ha, hbm, hres, hb⟩ := hrel
        have HZ := Lib.hid hz
        have HRow := Lib.hid hrow
        have HA := Lib.hid ha
        have HBm := Lib.hid hbm
        have HRes := Lib.hid hres
        have HB := Lib.hid hb
        clear hz hrow ha hbm hres hb
        by_cases hp : p < 4
        · obtain ⟨n, hn⟩ : ∃ n, n = 4 * r + p := ⟨_, rfl⟩
          have HN := Lib.hid hn
          have hn12 : n < 12 := by omega
          clear hn
          have hp0 : (0 : Int) ≤ (p : Int) := by omega
          have hpd : (p : Int) < 4 := by omega
          have hn0 : (0 : Int) ≤ (n : Int) := by omega
          have hn1 : (n : Int) < 12 := by omega
          have hw1 : IntKind.i64.wrap (4 * (r : Int)) = 4 * (r : Int) := IntWalk.i64_in _ (by omega)
          have hw2 : IntKind.i64.wrap (4 * (r : Int) + (p : Int)) = (n : Int) := by rw [show 4 * (r : Int) + (p : Int) = (n : Int) by have := HN.out; omega]; exact IntWalk.i64_in _ (by omega)
          have hsA := sizeM A
          have hu := Try.underlying25
          obtain ⟨l, hl⟩ : ∃ l, l = pairL A r p := ⟨_, rfl⟩
          obtain ⟨x, hx⟩ : ∃ x, x = colM B p 0 := ⟨_, rfl⟩
          obtain ⟨y, hy⟩ : ∃ y, y = colM B p 1 := ⟨_, rfl⟩
          obtain ⟨z, hz⟩ : ∃ z, z = colM B p 2 := ⟨_, rfl⟩
          have HD : Hid (pV A B n = alV A r (v3 x y z) l ∧ pE A B n = alE A r (v3 x y z) l) := Lib.hid (by rw [HN.out, hl, hx, hy, hz]; exact ⟨pV_at A B hp, pE_at A B hp⟩)
          by_cases h3 : p = 3
          · subst h3
            have hw5 : IntKind.i64.wrap (4 * (r : Int) + 3) = (n : Int) := by rw [show 4 * (r : Int) + 3 = (n : Int) by have := HN.out; omega]; exact IntWalk.i64_in _ (by omega)
            clear hw2
            have hwa : IntKind.i64.wrap 7 = 7 := IntWalk.i64_in _ (by omega)
            have hwb : IntKind.i64.wrap 11 = 11 := IntWalk.i64_in _ (by omega)
            have hl' : l = A n := by rw [hl, HN.out]; rfl
            have cm := Blk.at12 HA.out hn12
            rw [← hl'] at cm
            have cx : wr.cell? ⟨w.heap.size + 1, 3, none⟩ = some (.int .i64 x) := by rw [hx]; exact Blk.at12 HBm.out (k := 3) (by omega)
            have cy : wr.cell? ⟨w.heap.size + 1, 7, none⟩ = some (.int .i64 y) := by rw [hy]; exact Blk.at12 HBm.out (k := 7) (by omega)
            have cz : wr.cell? ⟨w.heap.size + 1, 11, none⟩ = some (.int .i64 z) := by rw [hz]; exact Blk.at12 HBm.out (k := 11) (by omega)
            clear hl' hl hx hy hz
            go_wp2
            clear cm
            go_region_held3 (fun w' => w'.rangeAt w.heap.size 0 [.int .i64 (A 0), .int .i64 (A 1), .int .i64 (A 2), .int .i64 (A 3), .int .i64 (A 4), .int .i64 (A 5), .int .i64 (A 6), .int .i64 (A 7), .int .i64 (A 8), .int .i64 (A 9), .int .i64 (A 10), .int .i64 (A 11)] ∧ w'.cell? ⟨w.heap.size + 1, 3, none⟩ = some (.int .i64 x) ∧ w'.cell? ⟨w.heap.size + 1, 7, none⟩ = some (.int .i64 y) ∧ w'.cell? ⟨w.heap.size + 1, 11, none⟩ = some (.int .i64 z)) (first | exact ⟨rangeM (Blk.keep HA.out (bdrew b3)), cell_keepD b3 cx, cell_keepD b3 cy, cell_keepD b3 cz⟩ | exact ⟨rangeM (Blk.drew HA.out), cx, cy, cz⟩)
              (first | (go_at_call 29; refine (rsum_xyz A r x y z l _ hr).mono ?_; rintro e w3 ⟨rfl, b3⟩))
            have B3 := Lib.hid (bdrew b3)
            clear b3 cx cy cz
            have HRow2 := Lib.hid (HRow.out.of_block (B3.out.block _ HRow.out.lt))
            have HA2 := Lib.hid (Blk.keep HA.out B3.out)
            have HBm2 := Lib.hid (Blk.keep HBm.out B3.out)
            have HRes2 := Lib.hid (Blk.keep HRes.out B3.out)
            have HB2 := Lib.hid (bthen HB.out B3.out)
            clear B3 HRow HA HBm HRes HB
            obtain ⟨u, hx⟩ : ∃ u, u = alV A r (v3 x y z) l := ⟨_, rfl⟩
            obtain ⟨v, hy⟩ : ∃ v, v = alE A r (v3 x y z) l := ⟨_, rfl⟩
            rw [← hx, ← hy] at HD
            rw [← hx, ← hy]
            clear hx hy
            by_cases he : v = 0
            · have HEk := Lib.hid he
              have he' : (v != 0) = false := by rw [he]; rfl
              clear he
              have rc := HRow2.out.cell (i := n) (by omega)
              have rf := HRow2.out.frozen n
              have hnn : ¬ (n < 4 * r + 3) := by have := HN.out; omega
              unfold laidTo at rc
              rw [if_neg hnn] at rc
              clear hnn
              go_wp2
              go_roundw
              case rel => exact ⟨3 + 1, by omega, by go_num, by rw [show 4 * r + (3 + 1) = n + 1 by have := HN.out; omega]; exact err_step (by rw [HN.out]; exact HZ.out) (by rw [HD.out.2]; exact HEk.out), (HRow2.out.set n _).congr (fun i _ => by rw [← HD.out.1, show 4 * r + (3 + 1) = n + 1 by have := HN.out; omega, show 4 * r + 3 = n from HN.out.symm]; exact laid_step _ n i), HA2.out.far (by simp <;> omega) _, HBm2.out.far (by simp <;> omega) _, HRes2.out.far (by simp) _, HB2.out.setCell (by simp <;> omega) _⟩
              case measure => simp [intOf] <;> omega
            · have HEk := Lib.hid he
              have he' : (v != 0) = true := by simpa using he
              clear he HRow2 HA2 HBm2
              obtain ⟨c0, c1, c2, c3, c4, c5, c6, c7, c8, c9, c10, c11, f0, f1, f2, f3, f4, f5, f6, f7, f8, f9, f10, f11⟩ := blk12 HRes2.out
              go_wp2
              have e1 : prodE2 A B = v := by
                rw [← HD.out.2]
                exact firstN_at (e := pE A B) (by rw [HN.out]; exact HZ.out) (by rw [HD.out.2]; exact HEk.out) hn12
              have e2 : prodE2 A B ≠ 0 := by rw [e1]; exact HEk.out
              exact bodyPost_ret (v := .tuple #[.agg #[.int .i64 0, .int .i64 0, .int .i64 0, .int .i64 0, .int .i64 0, .int .i64 0, .int .i64 0, .int .i64 0, .int .i64 0, .int .i64 0, .int .i64 0, .int .i64 0], .int .i64 v]) (by simp [results, Try.results25, go_sem, c0, c1, c2, c3, c4, c5, c6, c7, c8, c9, c10, c11]) rfl ⟨by rw [prod_no e2 0, prod_no e2 1, prod_no e2 2, prod_no e2 3, prod_no e2 4, prod_no e2 5, prod_no e2 6, prod_no e2 7, prod_no e2 8, prod_no e2 9, prod_no e2 10, prod_no e2 11, e1], bset12 HB2.out (by omega)⟩
          · have hl' : l = 0 := by rw [hl]; unfold pairL; rw [if_neg h3]
            have hd1 : ((p : Int) == 3) = false := by simp; omega
            have hd2 : decide ((p : Int) = 3) = false := by simp; omega
            obtain ⟨q, hq⟩ : ∃ q, q = 4 + p := ⟨_, rfl⟩
            obtain ⟨s, hs⟩ : ∃ s, s = 8 + p := ⟨_, rfl⟩
            have hw3 : IntKind.i64.wrap (4 + (p : Int)) = (q : Int) := by rw [show 4 + (p : Int) = (q : Int) by omega]; exact IntWalk.i64_in _ (by omega)
            have hw4 : IntKind.i64.wrap (8 + (p : Int)) = (s : Int) := by rw [show 8 + (p : Int) = (s : Int) by omega]; exact IntWalk.i64_in _ (by omega)
            have hq0 : (0 : Int) ≤ (q : Int) := by omega
            have hq1 : (q : Int) < 12 := by omega
            have hs0 : (0 : Int) ≤ (s : Int) := by omega
            have hs1 : (s : Int) < 12 := by omega
            have hp12 : (p : Int) < 12 := by omega
            have cx : wr.cell? ⟨w.heap.size + 1, p, none⟩ = some (.int .i64 x) := by rw [hx, show colM B p 0 = B p by unfold colM; rw [Nat.mul_zero, Nat.zero_add]]; exact Blk.at12 HBm.out (by omega)
            have cy : wr.cell? ⟨w.heap.size + 1, q, none⟩ = some (.int .i64 y) := by rw [hy, show colM B p 1 = B q by unfold colM; rw [hq]]; exact Blk.at12 HBm.out (by omega)
            have cz : wr.cell? ⟨w.heap.size + 1, s, none⟩ = some (.int .i64 z) := by rw [hz, show colM B p 2 = B s by unfold colM; rw [hs]]; exact Blk.at12 HBm.out (by omega)
            clear hl hx hy hz hq hs
            subst hl'
            go_wp2
            go_region_held3 (fun w' => w'.rangeAt w.heap.size 0 [.int .i64 (A 0), .int .i64 (A 1), .int .i64 (A 2), .int .i64 (A 3), .int .i64 (A 4), .int .i64 (A 5), .int .i64 (A 6), .int .i64 (A 7), .int .i64 (A 8), .int .i64 (A 9), .int .i64 (A 10), .int .i64 (A 11)] ∧ w'.cell? ⟨w.heap.size + 1, p, none⟩ = some (.int .i64 x) ∧ w'.cell? ⟨w.heap.size + 1, q, none⟩ = some (.int .i64 y) ∧ w'.cell? ⟨w.heap.size + 1, s, none⟩ = some (.int .i64 z)) (first | exact ⟨rangeM (Blk.keep HA.out (bdrew b3)), cell_keepD b3 cx, cell_keepD b3 cy, cell_keepD b3 cz⟩ | exact ⟨rangeM (Blk.drew HA.out), cx, cy, cz⟩)
              (first | (go_at_call 29; refine (rsum_xyz A r x y z 0 _ hr).mono ?_; rintro e w3 ⟨rfl, b3⟩))
            have B3 := Lib.hid (bdrew b3)
            clear b3 cx cy cz
            have HRow2 := Lib.hid (HRow.out.of_block (B3.out.block _ HRow.out.lt))
            have HA2 := Lib.hid (Blk.keep HA.out B3.out)
            have HBm2 := Lib.hid (Blk.keep HBm.out B3.out)
            have HRes2 := Lib.hid (Blk.keep HRes.out B3.out)
            have HB2 := Lib.hid (bthen HB.out B3.out)
            clear B3 HRow HA HBm HRes HB
            obtain ⟨u, hx⟩ : ∃ u, u = alV A r (v3 x y z) 0 := ⟨_, rfl⟩
            obtain ⟨v, hy⟩ : ∃ v, v = alE A r (v3 x y z) 0 := ⟨_, rfl⟩
            rw [← hx, ← hy] at HD
            rw [← hx, ← hy]
            clear hx hy
            by_cases he : v = 0
            · have HEk := Lib.hid he
              have he' : (v != 0) = false := by rw [he]; rfl
              clear he
              have rc := HRow2.out.cell (i := n) (by omega)
              have rf := HRow2.out.frozen n
              have hnn : ¬ (n < 4 * r + p) := by have := HN.out; omega
              unfold laidTo at rc
              rw [if_neg hnn] at rc
              clear hnn
              go_wp2
              go_roundw
              case rel => exact ⟨p + 1, by omega, by go_num, by rw [show 4 * r + (p + 1) = n + 1 by have := HN.out; omega]; exact err_step (by rw [HN.out]; exact HZ.out) (by rw [HD.out.2]; exact HEk.out), (HRow2.out.set n _).congr (fun i _ => by rw [← HD.out.1, show 4 * r + (p + 1) = n + 1 by have := HN.out; omega, show 4 * r + p = n from HN.out.symm]; exact laid_step _ n i), HA2.out.far (by simp <;> omega) _, HBm2.out.far (by simp <;> omega) _, HRes2.out.far (by simp) _, HB2.out.setCell (by simp <;> omega) _⟩
              case measure => simp [intOf] <;> omega
            · have HEk := Lib.hid he
              have he' : (v != 0) = true := by simpa using he
              clear he HRow2 HA2 HBm2
              obtain ⟨c0, c1, c2, c3, c4, c5, c6, c7, c8, c9, c10, c11, f0, f1, f2, f3, f4, f5, f6, f7, f8, f9, f10, f11⟩ := blk12 HRes2.out
              go_wp2
              have e1 : prodE2 A B = v := by
                rw [← HD.out.2]
                exact firstN_at (e := pE A B) (by rw [HN.out]; exact HZ.out) (by rw [HD.out.2]; exact HEk.out) hn12
              have e2 : prodE2 A B ≠ 0 := by rw [e1]; exact HEk.out
              exact bodyPost_ret (v := .tuple #[.agg #[.int .i64 0, .int .i64 0, .int .i64 0, .int .i64 0, .int .i64 0, .int .i64 0, .int .i64 0, .int .i64 0, .int .i64 0, .int .i64 0, .int .i64 0, .int .i64 0], .int .i64 v]) (by simp [results, Try.results25, go_sem, c0, c1, c2, c3, c4, c5, c6, c7, c8, c9, c10, c11]) rfl ⟨by rw [prod_no e2 0, prod_no e2 1, prod_no e2 2, prod_no e2 3, prod_no e2 4, prod_no e2 5, prod_no e2 6, prod_no e2 7, prod_no e2 8, prod_no e2 9, prod_no e2 10, prod_no e2 11, e1], bset12 HB2.out (by omega)⟩
        · obtain rfl : p = 4 := by omega
          go_wp2
          go_roundw
          case rel => exact ⟨r + 1, by omega, by go_num, HZ.out, HRow.out, HA.out, HBm.out, HRes.out, HB.out⟩
          case measure => simp [intOf]; omega
    · obtain rfl : r = 3 := by omega
      have hE : prodE2 A B = 0 := firstN_none HZ.out
      have HE := Lib.hid hE
      clear hE
      have hm : Blk wr (w.heap.size + 3) 25 #[.int .i64 (pV A B 0), .int .i64 (pV A B 1), .int .i64 (pV A B 2), .int .i64 (pV A B 3), .int .i64 (pV A B 4), .int .i64 (pV A B 5), .int .i64 (pV A B 6), .int .i64 (pV A B 7), .int .i64 (pV A B 8), .int .i64 (pV A B 9), .int .i64 (pV A B 10), .int .i64 (pV A B 11)] := blk_of_row HRow.out
      clear HZ HRow HA HBm
      obtain ⟨o0, o1, o2, o3, o4, o5, o6, o7, o8, o9, o10, o11, _, _, _, _, _, _, _, _, _, _, _, _⟩ := blk12 hm
      obtain ⟨c0, c1, c2, c3, c4, c5, c6, c7, c8, c9, c10, c11, f0, f1, f2, f3, f4, f5, f6, f7, f8, f9, f10, f11⟩ := blk12 HRes.out
      clear hm
      go_wp2
      exact bodyPost_ret (v := .tuple #[.agg #[.int .i64 (pV A B 0), .int .i64 (pV A B 1), .int .i64 (pV A B 2), .int .i64 (pV A B 3), .int .i64 (pV A B 4), .int .i64 (pV A B 5), .int .i64 (pV A B 6), .int .i64 (pV A B 7), .int .i64 (pV A B 8), .int .i64 (pV A B 9), .int .i64 (pV A B 10), .int .i64 (pV A B 11)], .int .i64 0]) (by simp [results, Try.results25, go_sem, c0, c1, c2, c3, c4, c5, c6, c7, c8, c9, c10, c11]) rfl ⟨by rw [prod_ok HE.out 0, prod_ok HE.out 1, prod_ok HE.out 2, prod_ok HE.out 3, prod_ok HE.out 4, prod_ok HE.out 5, prod_ok HE.out 6, prod_ok HE.out 7, prod_ok HE.out 8, prod_ok HE.out 9, prod_ok HE.out 10, prod_ok HE.out 11, HE.out], bset12 HB.out (by omega)⟩

end Go.Proofs.Ytjdoneacbnalaaa
