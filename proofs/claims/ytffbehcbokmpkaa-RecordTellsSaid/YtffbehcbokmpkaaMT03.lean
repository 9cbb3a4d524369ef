/-
  10 texts in one file, each with its own heading.
-/
import Derived.Test.YtffbehcbokmpkaaMT02
/-
  What the reference's Carry of layer 4 answers.
-/
namespace Go.Proofs.Ytffbehcbokmpkaa
open Go.RowKit

def rowM (M : Nat → Int) (r k : Nat) : Int := M (4 * r + k)
def caLo (M B : Nat → Int) (r : Nat) : Int := enLo (rowM M r) B (M (4 * r + 3))
def caHi (M B : Nat → Int) (r : Nat) : Int := enHi (rowM M r) B (M (4 * r + 3))
def caE (M B : Nat → Int) (r : Nat) : Int := enE (rowM M r) B (M (4 * r + 3))
def caK (M B : Nat → Int) (k : Nat) : Int := if k < 3 then caLo M B k else caHi M B (k - 3)
def carOk (M B : Nat → Int) : Bool := okM M && okBox B
def carE (M B : Nat → Int) : Int := if carOk M B then first3 (caE M B 0) (caE M B 1) (caE M B 2) else 1
def carV (M B : Nat → Int) (k : Nat) : Int := gate (carE M B) (caK M B k)
theorem carE_yes {M B : Nat → Int} (h : okM M = true) (h' : okBox B = true) : carE M B = first3 (caE M B 0) (caE M B 1) (caE M B 2) := by unfold carE carOk; rw [h, h']; rfl
theorem carE_no {M B : Nat → Int} (h : carOk M B = false) : carE M B = 1 := by unfold carE; rw [h]; rfl
theorem carV_no {M B : Nat → Int} (h : carOk M B = false) (k : Nat) : carV M B k = 0 := by unfold carV; rw [carE_no h]; rfl
theorem carV_of {M B : Nat → Int} {e : Int} (h : carE M B = e) (k : Nat) : carV M B k = gate e (caK M B k) := by unfold carV; rw [h]

theorem bset6 {w a : World} {g : Nat} {u0 u1 u2 u3 u4 u5 : Value} (h : Below w.heap.size w a) (hg : w.heap.size ≤ g) : Below w.heap.size w ((((((a.setCell ⟨g, 0, none⟩ u0).setCell ⟨g, 1, none⟩ u1).setCell ⟨g, 2, none⟩ u2).setCell ⟨g, 3, none⟩ u3).setCell ⟨g, 4, none⟩ u4).setCell ⟨g, 5, none⟩ u5) :=
  (((((h.setCell hg _).setCell hg _).setCell hg _).setCell hg _).setCell hg _).setCell hg _
def rowsTo (f : Nat → Int) (r j : Nat) : Value := if j % 3 < r then .int .i64 (f j) else .int .i64 0
theorem rows_start (w : World) (t : TypeId) (f : Nat → Int) : (w.alloc (.cells #[.int .i64 0, .int .i64 0, .int .i64 0, .int .i64 0, .int .i64 0, .int .i64 0] t)).rowIs w.heap.size t 6 (rowsTo f 0) := by
  refine (World.rowIs_alloc w _ t (rowsTo f 0) (fun i hi => ?_))
  rcases lt6 (k := i) (by simpa using hi) with rfl | rfl | rfl | rfl | rfl | rfl <;> rfl
theorem rows_step (f : Nat → Int) {r j : Nat} (hr : r < 3) (hj : j < 6) : (if j = 3 + r then Value.int .i64 (f (3 + r)) else if j = r then .int .i64 (f r) else rowsTo f r j) = rowsTo f (r + 1) j := by
  unfold rowsTo
  by_cases e1 : j = 3 + r
  · rw [if_pos e1, if_pos (by omega), e1]
  · rw [if_neg e1]
    by_cases e2 : j = r
    · rw [if_pos e2, if_pos (by omega), e2]
    · rw [if_neg e2]
      by_cases e3 : j % 3 < r
      · rw [if_pos e3, if_pos (by omega)]
      · rw [if_neg e3, if_neg (by omega)]

def r3 (x y z : Int) (j : Nat) : Int := [x, y, z].getD j 0
theorem rends_xyz (x y z : Int) (B : Nat → Int) (t : Int) (w : World) :
    Calls Try.prog 39 #[.agg #[.int .i64 x, .int .i64 y, .int .i64 z], .int .i64 t, .agg #[.int .i64 (B 0), .int .i64 (B 1), .int .i64 (B 2), .int .i64 (B 3), .int .i64 (B 4), .int .i64 (B 5)]] w fun e w' => e = .returned (.tuple #[.int .i64 (enLo (r3 x y z) B t), .int .i64 (enHi (r3 x y z) B t), .int .i64 (enE (r3 x y z) B t)]) ∧ Below w.heap.size w w' := rends_any (r3 x y z) B t w
theorem rmright_c {M : Nat → Int} {b : Bool} (h : okM M = b) (w : World) :
    Calls Try.prog 37 #[.agg #[.int .i64 (M 0), .int .i64 (M 1), .int .i64 (M 2), .int .i64 (M 3), .int .i64 (M 4), .int .i64 (M 5), .int .i64 (M 6), .int .i64 (M 7), .int .i64 (M 8), .int .i64 (M 9), .int .i64 (M 10), .int .i64 (M 11)]] w fun e w' => e = .returned (.bool b) ∧ Below w.heap.size w w' := (rmright_any M w).mono fun _ _ ⟨he, hw⟩ => ⟨by rw [he, h], hw⟩

set_option maxHeartbeats 1000000 in
theorem rcarry_no (M B : Nat → Int) (a b : Bool) (w : World) (h : okM M = a) (h' : okBox B = b) (hab : (a = false ∧ b = false) ∨ (a = false ∧ b = true) ∨ (a = true ∧ b = false)) :
    Calls Try.prog 21 #[.agg #[.int .i64 (M 0), .int .i64 (M 1), .int .i64 (M 2), .int .i64 (M 3), .int .i64 (M 4), .int .i64 (M 5), .int .i64 (M 6), .int .i64 (M 7), .int .i64 (M 8), .int .i64 (M 9), .int .i64 (M 10), .int .i64 (M 11)], .agg #[.int .i64 (B 0), .int .i64 (B 1), .int .i64 (B 2), .int .i64 (B 3), .int .i64 (B 4), .int .i64 (B 5)]] w fun e w' => e = .returned (.tuple #[.agg #[.int .i64 0, .int .i64 0, .int .i64 0, .int .i64 0, .int .i64 0, .int .i64 0], .int .i64 1]) ∧ Below w.heap.size w w' := by
  have HO := Lib.hid (And.intro h h')
  clear h h'
  rcases hab with ⟨rfl, rfl⟩ | ⟨rfl, rfl⟩ | ⟨rfl, rfl⟩
  all_goals
    go_enter Try.func21, Try.ntmps21
    go_wp2_with fail
    refine (rmright_c HO.out.1 _).mono ?_
    rintro e w1 ⟨rfl, b1⟩
    have KB := Lib.hid (blkAt (((Blk.new (w.alloc _) 30 _).alloc _).keep b1) (g' := w.heap.size + 1) (by simp))
    have KR := Lib.hid (blkAt ((Blk.new ((w.alloc _).alloc _) 30 _).keep b1) (g' := w.heap.size + 2) (by simp))
    have B1 := Lib.hid (bthen (balloc (balloc (alloc_below _ _) _) _) b1)
    clear b1
    obtain ⟨d0, d1, d2, d3, d4, d5, _⟩ := blk6 KB.out
    go_wp2_with fail
    refine (rbox_b HO.out.2 _).mono ?_
    rintro e w2 ⟨rfl, b2⟩
    replace KR := Lib.hid (KR.out.keep b2)
    replace B1 := Lib.hid (bthen B1.out b2)
    clear b2 d0 d1 d2 d3 d4 d5
    obtain ⟨c0, c1, c2, c3, c4, c5, f0, f1, f2, f3, f4, f5⟩ := blk6 KR.out
    go_wp2
    exact bodyPost_ret (v := .tuple #[.agg #[.int .i64 0, .int .i64 0, .int .i64 0, .int .i64 0, .int .i64 0, .int .i64 0], .int .i64 1]) (by simp [results, Try.results21, go_sem, c0, c1, c2, c3, c4, c5]) rfl ⟨rfl, bset6 B1.out (by omega)⟩

set_option maxHeartbeats 2000000 in
theorem rcarry_yes (M B : Nat → Int) (w : World) (h : okM M = true) (h' : okBox B = true) :
    Calls Try.prog 21 #[.agg #[.int .i64 (M 0), .int .i64 (M 1), .int .i64 (M 2), .int .i64 (M 3), .int .i64 (M 4), .int .i64 (M 5), .int .i64 (M 6), .int .i64 (M 7), .int .i64 (M 8), .int .i64 (M 9), .int .i64 (M 10), .int .i64 (M 11)], .agg #[.int .i64 (B 0), .int .i64 (B 1), .int .i64 (B 2), .int .i64 (B 3), .int .i64 (B 4), .int .i64 (B 5)]] w fun e w' => e = .returned (.tuple #[.agg #[.int .i64 (carV M B 0), .int .i64 (carV M B 1), .int .i64 (carV M B 2), .int .i64 (carV M B 3), .int .i64 (carV M B 4), .int .i64 (carV M B 5)], .int .i64 (carE M B)]) ∧ Below w.heap.size w w' := by
  have HO := Lib.hid (And.intro h h')
  clear h h'
  go_enter Try.func21, Try.ntmps21
  go_wp2_with fail
  refine (rmright_c HO.out.1 _).mono ?_
  rintro e w1 ⟨rfl, b1⟩
  have KM := Lib.hid ((((Blk.new w 26 _).alloc _).alloc _).keep b1)
  have KB := Lib.hid (blkAt (((Blk.new (w.alloc _) 30 _).alloc _).keep b1) (g' := w.heap.size + 1) (by simp))
  have KR := Lib.hid (blkAt ((Blk.new ((w.alloc _).alloc _) 30 _).keep b1) (g' := w.heap.size + 2) (by simp))
  have B1 := Lib.hid (bthen (balloc (balloc (alloc_below _ _) _) _) b1)
  clear b1
  obtain ⟨d0, d1, d2, d3, d4, d5, _⟩ := blk6 KB.out
  go_wp2_with fail
  refine (rbox_b HO.out.2 _).mono ?_
  rintro e w2 ⟨rfl, b2⟩
  replace KM := Lib.hid (KM.out.keep b2)
  replace KB := Lib.hid (KB.out.keep b2)
  replace KR := Lib.hid (KR.out.keep b2)
  replace B1 := Lib.hid (bthen B1.out b2)
  clear b2 d0 d1 d2 d3 d4 d5
  go_wp2
  go_loopw [9] (fun i wr => ∃ k : Nat, k ≤ 3 ∧ i = .int .i64 k ∧ (∀ j, j < k → caE M B j = 0) ∧ wr.rowIs w2.heap.size 30 6 (rowsTo (caK M B) k) ∧ BM wr w.heap.size M ∧ Blk wr (w.heap.size + 1) 30 #[.int .i64 (B 0), .int .i64 (B 1), .int .i64 (B 2), .int .i64 (B 3), .int .i64 (B 4), .int .i64 (B 5)] ∧ Blk wr (w.heap.size + 2) 30 #[.int .i64 0, .int .i64 0, .int .i64 0, .int .i64 0, .int .i64 0, .int .i64 0] ∧ Below w.heap.size w wr) (fun i _ => 3 - (intOf i).toNat)
  case atStart => exact ⟨0, by omega, rfl, fun j hj => by omega, rows_start _ _ _, KM.out.alloc _, KB.out.alloc _, KR.out.alloc _, balloc B1.out _⟩
  case round =>
    have hne : w.heap.size + 2 < w2.heap.size := KR.out.lt
    clear KM KB KR B1
    obtain ⟨r, hr3, rfl, hz, hrow, ha, hbb, hres, hb⟩ := hrel
    have HZ := Lib.hid hz
    have HRow := Lib.hid hrow
    have HM := Lib.hid ha
    have KB := Lib.hid hbb
    have HRes := Lib.hid hres
    have HB := Lib.hid hb
    clear hz hrow ha hbb hres hb
    by_cases hr : r < 3
    · obtain ⟨n0, hn0⟩ : ∃ n, n = 4 * r := ⟨_, rfl⟩
      obtain ⟨n1, hn1⟩ : ∃ n, n = 4 * r + 1 := ⟨_, rfl⟩
      obtain ⟨n2, hn2⟩ : ∃ n, n = 4 * r + 2 := ⟨_, rfl⟩
      obtain ⟨n3, hn3⟩ : ∃ n, n = 4 * r + 3 := ⟨_, rfl⟩
      have hw0 : IntKind.i64.wrap (4 * (r : Int)) = (n0 : Int) := by rw [show 4 * (r : Int) = (n0 : Int) by omega]; exact IntWalk.i64_in _ (by omega)
      have hw1 : IntKind.i64.wrap ((n0 : Int) + 1) = (n1 : Int) := by rw [show (n0 : Int) + 1 = (n1 : Int) by omega]; exact IntWalk.i64_in _ (by omega)
      have hw2 : IntKind.i64.wrap ((n0 : Int) + 2) = (n2 : Int) := by rw [show (n0 : Int) + 2 = (n2 : Int) by omega]; exact IntWalk.i64_in _ (by omega)
      have hw3 : IntKind.i64.wrap ((n0 : Int) + 3) = (n3 : Int) := by rw [show (n0 : Int) + 3 = (n3 : Int) by omega]; exact IntWalk.i64_in _ (by omega)
      have c0 := Blk.at12 HM.out (k := n0) (by omega)
      have c1 := Blk.at12 HM.out (k := n1) (by omega)
      have c2 := Blk.at12 HM.out (k := n2) (by omega)
      have c3 := Blk.at12 HM.out (k := n3) (by omega)
      obtain ⟨x, hx⟩ : ∃ x, x = M n0 := ⟨_, rfl⟩
      obtain ⟨y, hy⟩ : ∃ y, y = M n1 := ⟨_, rfl⟩
      obtain ⟨z, hz⟩ : ∃ z, z = M n2 := ⟨_, rfl⟩
      obtain ⟨l, hl⟩ : ∃ l, l = M n3 := ⟨_, rfl⟩
      have HD : Hid (caLo M B r = enLo (r3 x y z) B l ∧ caHi M B r = enHi (r3 x y z) B l ∧ caE M B r = enE (r3 x y z) B l) := Lib.hid (by unfold caLo caHi caE; rw [hx, hy, hz, hl, hn0, hn1, hn2, hn3]; exact ⟨rfl, rfl, rfl⟩)
      rw [← hx] at c0
      rw [← hy] at c1
      rw [← hz] at c2
      rw [← hl] at c3
      have b00 : (0 : Int) ≤ (n0 : Int) := by omega
      have b01 : (n0 : Int) < 12 := by omega
      have b10 : (0 : Int) ≤ (n1 : Int) := by omega
      have b11 : (n1 : Int) < 12 := by omega
      have b20 : (0 : Int) ≤ (n2 : Int) := by omega
      have b21 : (n2 : Int) < 12 := by omega
      have b30 : (0 : Int) ≤ (n3 : Int) := by omega
      have b31 : (n3 : Int) < 12 := by omega
      clear hx hy hz hl hn0 hn1 hn2 hn3
      have hr0 : (0 : Int) ≤ (r : Int) := by omega
      have hrd : (r : Int) < 3 := by omega
      obtain ⟨d0, d1, d2, d3, d4, d5, _⟩ := blk6 KB.out
      go_wp2
      go_region_held3 (fun w' => w'.cell? ⟨w.heap.size, n0, none⟩ = some (.int .i64 x) ∧ w'.cell? ⟨w.heap.size, n1, none⟩ = some (.int .i64 y) ∧ w'.cell? ⟨w.heap.size, n2, none⟩ = some (.int .i64 z) ∧ w'.cell? ⟨w.heap.size, n3, none⟩ = some (.int .i64 l) ∧ w'.cell? ⟨w.heap.size + 1, 0, none⟩ = some (.int .i64 (B 0)) ∧ w'.cell? ⟨w.heap.size + 1, 1, none⟩ = some (.int .i64 (B 1)) ∧ w'.cell? ⟨w.heap.size + 1, 2, none⟩ = some (.int .i64 (B 2)) ∧ w'.cell? ⟨w.heap.size + 1, 3, none⟩ = some (.int .i64 (B 3)) ∧ w'.cell? ⟨w.heap.size + 1, 4, none⟩ = some (.int .i64 (B 4)) ∧ w'.cell? ⟨w.heap.size + 1, 5, none⟩ = some (.int .i64 (B 5))) (first | exact ⟨cell_keepD b3 c0, cell_keepD b3 c1, cell_keepD b3 c2, cell_keepD b3 c3, cell_keepD b3 d0, cell_keepD b3 d1, cell_keepD b3 d2, cell_keepD b3 d3, cell_keepD b3 d4, cell_keepD b3 d5⟩ | exact ⟨c0, c1, c2, c3, d0, d1, d2, d3, d4, d5⟩)
        (first | (go_at_call 39; refine (rends_xyz x y z B l _).mono ?_; rintro e w3 ⟨rfl, b3⟩))
      have B3 := Lib.hid (bdrew b3)
      clear b3 c0 c1 c2 c3 d0 d1 d2 d3 d4 d5
      have HRow2 := Lib.hid (HRow.out.of_block (B3.out.block _ HRow.out.lt))
      have HM2 := Lib.hid (Blk.keep HM.out B3.out)
      have KB2 := Lib.hid (KB.out.keep B3.out)
      have HRes2 := Lib.hid (HRes.out.keep B3.out)
      have HB2 := Lib.hid (bthen HB.out B3.out)
      clear B3 HRow HM KB HRes HB
      obtain ⟨p, hp⟩ : ∃ p, p = enLo (r3 x y z) B l := ⟨_, rfl⟩
      obtain ⟨q, hq⟩ : ∃ q, q = enHi (r3 x y z) B l := ⟨_, rfl⟩
      obtain ⟨s, hs⟩ : ∃ s, s = enE (r3 x y z) B l := ⟨_, rfl⟩
      rw [← hp, ← hq, ← hs] at HD
      rw [← hp, ← hq, ← hs]
      clear hp hq hs
      by_cases he : s = 0
      · have HEk := Lib.hid he
        have he' : (s != 0) = false := by rw [he]; rfl
        clear he
        have rc := HRow2.out.cell (i := r) (by omega)
        have rf := HRow2.out.frozen r
        have rd := (HRow2.out.set r (.int .i64 p)).cell (i := 3 + r) (by omega)
        have rg := (HRow2.out.set r (.int .i64 p)).frozen (3 + r)
        unfold rowsTo at rc rd
        rw [if_neg (by omega)] at rc
        rw [if_neg (by omega), if_neg (by omega)] at rd
        go_wp2
        go_roundw
        case rel => exact ⟨r + 1, by omega, by go_num, err_step HZ.out (by rw [HD.out.2.2]; exact HEk.out), ((HRow2.out.set r _).set (3 + r) _).congr (fun i hi => by rw [← HD.out.1, ← HD.out.2.1, show caLo M B r = caK M B r by unfold caK; rw [if_pos hr], show caHi M B r = caK M B (3 + r) by unfold caK; rw [if_neg (by omega), show 3 + r - 3 = r by omega]]; exact rows_step _ hr hi), (Blk.far HM2.out (by simp <;> omega) _).far (by simp <;> omega) _, (KB2.out.far (by simp <;> omega) _).far (by simp <;> omega) _, (HRes2.out.far (by simp <;> omega) _).far (by simp <;> omega) _, (HB2.out.setCell (by simp <;> omega) _).setCell (by simp <;> omega) _⟩
        case measure => simp [intOf] <;> omega
      · have HEk := Lib.hid he
        have he' : (s != 0) = true := by simpa using he
        clear he HRow2 HM2 KB2
        obtain ⟨c0, c1, c2, c3, c4, c5, f0, f1, f2, f3, f4, f5⟩ := blk6 HRes2.out
        go_wp2
        have e1 : carE M B = s := by
          rw [carE_yes HO.out.1 HO.out.2, ← HD.out.2.2]
          exact first3_at (e := caE M B) hr HZ.out (by rw [HD.out.2.2]; exact HEk.out)
        have e2 : ∀ v, gate s v = 0 := fun v => by unfold gate; rw [if_neg HEk.out]
        exact bodyPost_ret (v := .tuple #[.agg #[.int .i64 0, .int .i64 0, .int .i64 0, .int .i64 0, .int .i64 0, .int .i64 0], .int .i64 s]) (by simp [results, Try.results21, go_sem, c0, c1, c2, c3, c4, c5]) rfl ⟨by rw [carV_of e1, carV_of e1, carV_of e1, carV_of e1, carV_of e1, carV_of e1, e1, e2, e2, e2, e2, e2, e2], bset6 HB2.out (by omega)⟩
    · obtain rfl : r = 3 := by omega
      have e1 : carE M B = 0 := by rw [carE_yes HO.out.1 HO.out.2]; exact first3_none (e := caE M B) HZ.out
      have HE := Lib.hid e1
      clear e1
      have o0 : wr.cell? ⟨w2.heap.size, 0, none⟩ = some (.int .i64 (caK M B 0)) := HRow.out.cell (i := 0) (by omega)
      have o1 : wr.cell? ⟨w2.heap.size, 1, none⟩ = some (.int .i64 (caK M B 1)) := HRow.out.cell (i := 1) (by omega)
      have o2 : wr.cell? ⟨w2.heap.size, 2, none⟩ = some (.int .i64 (caK M B 2)) := HRow.out.cell (i := 2) (by omega)
      have o3 : wr.cell? ⟨w2.heap.size, 3, none⟩ = some (.int .i64 (caK M B 3)) := HRow.out.cell (i := 3) (by omega)
      have o4 : wr.cell? ⟨w2.heap.size, 4, none⟩ = some (.int .i64 (caK M B 4)) := HRow.out.cell (i := 4) (by omega)
      have o5 : wr.cell? ⟨w2.heap.size, 5, none⟩ = some (.int .i64 (caK M B 5)) := HRow.out.cell (i := 5) (by omega)
      obtain ⟨c0, c1, c2, c3, c4, c5, f0, f1, f2, f3, f4, f5⟩ := blk6 HRes.out
      go_wp2
      exact bodyPost_ret (v := .tuple #[.agg #[.int .i64 (caK M B 0), .int .i64 (caK M B 1), .int .i64 (caK M B 2), .int .i64 (caK M B 3), .int .i64 (caK M B 4), .int .i64 (caK M B 5)], .int .i64 0]) (by simp [results, Try.results21, go_sem, c0, c1, c2, c3, c4, c5]) rfl ⟨by rw [carV_of HE.out, carV_of HE.out, carV_of HE.out, carV_of HE.out, carV_of HE.out, carV_of HE.out, HE.out, gate0, gate0, gate0, gate0, gate0, gate0], bset6 HB.out (by omega)⟩

theorem rcarry_any (M B : Nat → Int) (w : World) :
    Calls Try.prog 21 #[.agg #[.int .i64 (M 0), .int .i64 (M 1), .int .i64 (M 2), .int .i64 (M 3), .int .i64 (M 4), .int .i64 (M 5), .int .i64 (M 6), .int .i64 (M 7), .int .i64 (M 8), .int .i64 (M 9), .int .i64 (M 10), .int .i64 (M 11)], .agg #[.int .i64 (B 0), .int .i64 (B 1), .int .i64 (B 2), .int .i64 (B 3), .int .i64 (B 4), .int .i64 (B 5)]] w fun e w' => e = .returned (.tuple #[.agg #[.int .i64 (carV M B 0), .int .i64 (carV M B 1), .int .i64 (carV M B 2), .int .i64 (carV M B 3), .int .i64 (carV M B 4), .int .i64 (carV M B 5)], .int .i64 (carE M B)]) ∧ Below w.heap.size w w' := by
  by_cases h3 : carOk M B = false
  · rw [carE_no h3, carV_no h3, carV_no h3, carV_no h3, carV_no h3, carV_no h3, carV_no h3]
    refine rcarry_no M B (okM M) (okBox B) w rfl rfl ?_
    unfold carOk at h3
    cases h : okM M <;> cases h' : okBox B <;> simp_all
  · have h4 : okM M = true ∧ okBox B = true := by simpa [carOk] using h3
    exact rcarry_yes M B w h4.1 h4.2

end Go.Proofs.Ytffbehcbokmpkaa
namespace Go.Proofs.Ytffbehcbokmpkaa
open Go.ChangeShapes Go.WideShapes Go.ChangeAt Go.RowKit Go.Deep

def zeroB : Nat → Int := fun _ => 0
def BRow (w : World) (a : Option Addr) (len : Nat) (Bs : List (Nat → Int)) : Prop :=
  Bs.length = len ∧ len ≤ 9223372036854775807 ∧ (len = 0 ∨ ∃ b off, a = some ⟨b, off, none⟩ ∧ ∀ i, i < len → ∀ j, j < 6 → w.cell? ⟨b, off + i * 6 + j, none⟩ = some (.int .i64 (Bs.getD i zeroB j)))
theorem brow_keep {w w' : World} {a : Option Addr} {len : Nat} {Bs : List (Nat → Int)} (h : BRow w a len Bs) (hb : Below w.heap.size w w') : BRow w' a len Bs := by
  obtain ⟨h1, h2, h3⟩ := h
  refine ⟨h1, h2, ?_⟩
  rcases h3 with h3 | ⟨b, off, e, hc⟩
  · exact Or.inl h3
  · exact Or.inr ⟨b, off, e, fun i hi j hj => cell_keep (hc i hi j hj) hb⟩
theorem BRow.at_ {w : World} {a : Option Addr} {len k : Nat} {Bs : List (Nat → Int)} (h : BRow w a len Bs) (hk : k < len) :
    ∃ b off B, a = some ⟨b, off, none⟩ ∧ Bs[k]? = some B ∧ w.cell? ⟨b, off + k * 6, none⟩ = some (.int .i64 (B 0)) ∧ w.cell? ⟨b, off + k * 6 + 1, none⟩ = some (.int .i64 (B 1)) ∧ w.cell? ⟨b, off + k * 6 + 2, none⟩ = some (.int .i64 (B 2)) ∧ w.cell? ⟨b, off + k * 6 + 3, none⟩ = some (.int .i64 (B 3)) ∧ w.cell? ⟨b, off + k * 6 + 4, none⟩ = some (.int .i64 (B 4)) ∧ w.cell? ⟨b, off + k * 6 + 5, none⟩ = some (.int .i64 (B 5)) := by
  obtain ⟨h1, h2, h3⟩ := h
  rcases h3 with h3 | ⟨b, off, rfl, hc⟩
  · omega
  · have hk' : k < Bs.length := by omega
    have e : Bs.getD k zeroB = Bs[k] := by simp [List.getD, List.getElem?_eq_getElem hk']
    have c := hc k hk
    rw [e] at c
    exact ⟨b, off, _, rfl, List.getElem?_eq_getElem hk', c 0 (by omega), c 1 (by omega), c 2 (by omega), c 3 (by omega), c 4 (by omega), c 5 (by omega)⟩
def rightBx (Bs : List (Nat → Int)) : Bool := Bs.all okBox
theorem rightBx_bad {Bs : List (Nat → Int)} {k : Nat} {B : Nat → Int} (h : Bs[k]? = some B) (ho : okBox B = false) : rightBx Bs = false := by
  unfold rightBx
  rw [List.all_eq_false]
  exact ⟨B, List.mem_of_getElem? h, by simpa using ho⟩
theorem rightBx_succ {Bs : List (Nat → Int)} {k : Nat} {B : Nat → Int} (h : Bs[k]? = some B) (hr : rightBx (Bs.take k) = true) (ho : okBox B = true) : rightBx (Bs.take (k + 1)) = true := by
  unfold rightBx at hr ⊢
  rw [List.take_add_one, List.all_append, hr, h]
  simpa using ho
end Go.Proofs.Ytffbehcbokmpkaa
namespace Go.Proofs.Ytffbehcbokmpkaa
open Go.RowKit

theorem fin {Q : World → Prop} {W : World} (P : World → Prop) (h : P W) (k : ∀ W', P W' → Q W') : Q W := k W h
theorem bdrewn {n : Nat} {w a : World} (h : Below n w a) : Below n w a.drew := ⟨h.os, h.tape, h.output, h.size, h.block⟩

set_option maxHeartbeats 1000000 in
theorem rdiag_xyz (x y z : Int) (w : World) :
    Calls Try.prog 40 #[.agg #[.int .i64 x, .int .i64 y, .int .i64 z]] w fun e w' => e = .returned (.agg #[.int .i64 x, .int .i64 0, .int .i64 0, .int .i64 0, .int .i64 0, .int .i64 y, .int .i64 0, .int .i64 0, .int .i64 0, .int .i64 0, .int .i64 z, .int .i64 0]) ∧ Below w.heap.size w w' := by
  go_enter Try.func40, Try.ntmps40
  go_wp2
  refine wp_loop_rounds 4 ?_
  rw [rounds_succ]
  go_wp2
  rw [rounds_succ]
  go_wp2
  rw [rounds_succ]
  go_wp2
  rw [rounds_succ]
  go_wp2
  exact bodyPost_ret (v := .agg #[.int .i64 x, .int .i64 0, .int .i64 0, .int .i64 0, .int .i64 0, .int .i64 y, .int .i64 0, .int .i64 0, .int .i64 0, .int .i64 0, .int .i64 z, .int .i64 0]) (by simp [results, Try.results40, go_sem]) rfl ⟨rfl, balloc (balloc (alloc_below _ _) _) _⟩

set_option maxHeartbeats 1000000 in
theorem rsame_any (w : World) :
    Calls Try.prog 23 #[] w fun e w' => e = .returned (.agg #[.int .i64 65536, .int .i64 0, .int .i64 0, .int .i64 0, .int .i64 0, .int .i64 65536, .int .i64 0, .int .i64 0, .int .i64 0, .int .i64 0, .int .i64 65536, .int .i64 0]) ∧ Below w.heap.size w w' := by
  go_enter Try.func23, Try.ntmps23
  go_wp2_with fail
  refine (rdiag_xyz 65536 65536 65536 _).mono ?_
  rintro e w1 ⟨rfl, b1⟩
  have K1 := Lib.hid ((Blk.new w 26 _).keep b1)
  have B1 := Lib.hid (bthen (alloc_below _ _) b1)
  clear b1
  obtain ⟨c0, c1, c2, c3, c4, c5, c6, c7, c8, c9, c10, c11, f0, f1, f2, f3, f4, f5, f6, f7, f8, f9, f10, f11⟩ := blk12 K1.out
  go_wp2
  exact bodyPost_ret (v := .agg #[.int .i64 65536, .int .i64 0, .int .i64 0, .int .i64 0, .int .i64 0, .int .i64 65536, .int .i64 0, .int .i64 0, .int .i64 0, .int .i64 0, .int .i64 65536, .int .i64 0]) (by simp [results, Try.results23, go_sem, c0, c1, c2, c3, c4, c5, c6, c7, c8, c9, c10, c11]) rfl ⟨rfl, bset12 B1.out (by omega)⟩

set_option maxHeartbeats 1000000 in
theorem rmove_xyz (x y z : Int) (w : World) :
    Calls Try.prog 24 #[.agg #[.int .i64 x, .int .i64 y, .int .i64 z]] w fun e w' => e = .returned (.agg #[.int .i64 65536, .int .i64 0, .int .i64 0, .int .i64 x, .int .i64 0, .int .i64 65536, .int .i64 0, .int .i64 y, .int .i64 0, .int .i64 0, .int .i64 65536, .int .i64 z]) ∧ Below w.heap.size w w' := by
  go_enter Try.func24, Try.ntmps24
  go_wp2_with fail
  refine (rsame_any _).mono ?_
  rintro e w1 ⟨rfl, b1⟩
  have K1 := Lib.hid (blkAt ((Blk.new (w.alloc _) 26 _).keep b1) (g' := w.heap.size + 1) (by simp))
  have L1 := Lib.hid (((Blk.new w 28 _).alloc _).keep b1)
  have B1 := Lib.hid (bthen (balloc (alloc_below _ _) _) b1)
  clear b1
  obtain ⟨d0, d1, d2, _, _, _⟩ := blk3 L1.out
  have z2 := L1.out.lt
  go_wp2
  refine wp_loop_rounds 4 ?_
  rw [rounds_succ]
  go_wp2
  rw [rounds_succ]
  go_wp2
  rw [rounds_succ]
  go_wp2
  rw [rounds_succ]
  clear d0 d1 d2 z2
  refine fin (fun W => Blk W (w.heap.size + 1) 26 #[.int .i64 0, .int .i64 0, .int .i64 0, .int .i64 0, .int .i64 0, .int .i64 0, .int .i64 0, .int .i64 0, .int .i64 0, .int .i64 0, .int .i64 0, .int .i64 0] ∧ Blk W w1.heap.size 26 #[.int .i64 65536, .int .i64 0, .int .i64 0, .int .i64 x, .int .i64 0, .int .i64 65536, .int .i64 0, .int .i64 y, .int .i64 0, .int .i64 0, .int .i64 65536, .int .i64 z] ∧ Below w.heap.size w W) ⟨K1.out.alloc _, Blk.new w1 _ _, balloc B1.out _⟩ ?_
  rintro W ⟨hk, hm, hb⟩
  have HB := Lib.hid hb
  clear hb
  obtain ⟨c0, c1, c2, c3, c4, c5, c6, c7, c8, c9, c10, c11, f0, f1, f2, f3, f4, f5, f6, f7, f8, f9, f10, f11⟩ := blk12 hk
  obtain ⟨d0, d1, d2, d3, d4, d5, d6, d7, d8, d9, d10, d11, _, _, _, _, _, _, _, _, _, _, _, _⟩ := blk12 hm
  go_wp2
  exact bodyPost_ret (v := .agg #[.int .i64 65536, .int .i64 0, .int .i64 0, .int .i64 x, .int .i64 0, .int .i64 65536, .int .i64 0, .int .i64 y, .int .i64 0, .int .i64 0, .int .i64 65536, .int .i64 z]) (by simp [results, Try.results24, go_sem, c0, c1, c2, c3, c4, c5, c6, c7, c8, c9, c10, c11]) rfl ⟨rfl, bset12 HB.out (by omega)⟩

theorem rowIs_at {w : World} {b b' : Nat} {t : TypeId} {n : Nat} {f : Nat → Value} (h : w.rowIs b t n f) (e : b = b') : w.rowIs b' t n f := e ▸ h

theorem rangeM {w : World} {g : Nat} {t : TypeId} {A : Nat → Int} (hA : Blk w g t #[.int .i64 (A 0), .int .i64 (A 1), .int .i64 (A 2), .int .i64 (A 3), .int .i64 (A 4), .int .i64 (A 5), .int .i64 (A 6), .int .i64 (A 7), .int .i64 (A 8), .int .i64 (A 9), .int .i64 (A 10), .int .i64 (A 11)]) : w.rangeAt g 0 [.int .i64 (A 0), .int .i64 (A 1), .int .i64 (A 2), .int .i64 (A 3), .int .i64 (A 4), .int .i64 (A 5), .int .i64 (A 6), .int .i64 (A 7), .int .i64 (A 8), .int .i64 (A 9), .int .i64 (A 10), .int .i64 (A 11)] := fun j v hv => by
  rw [Nat.zero_add, hA.cell j]
  simpa using hv
theorem sizeM (A : Nat → Int) : (Try.prog.info? 26).map (·.size) = some ([.int .i64 (A 0), .int .i64 (A 1), .int .i64 (A 2), .int .i64 (A 3), .int .i64 (A 4), .int .i64 (A 5), .int .i64 (A 6), .int .i64 (A 7), .int .i64 (A 8), .int .i64 (A 9), .int .i64 (A 10), .int .i64 (A 11)] : List Value).length := by kernel_rfl

def v3 (x y z : Int) (j : Nat) : Int := [x, y, z].getD j 0
theorem mrow1 {w : World} {g : Nat} {t : TypeId} {M : Nat → Int} (h : Blk w g t #[.int .i64 (M 0), .int .i64 (M 1), .int .i64 (M 2), .int .i64 (M 3), .int .i64 (M 4), .int .i64 (M 5), .int .i64 (M 6), .int .i64 (M 7), .int .i64 (M 8), .int .i64 (M 9), .int .i64 (M 10), .int .i64 (M 11)]) : MRow w (some ⟨g, 0, none⟩) 1 [M] := by
  refine ⟨rfl, by omega, Or.inr ⟨_, _, rfl, fun i hi j hj => ?_⟩⟩
  obtain rfl : i = 0 := by omega
  have := h.at12 hj
  simpa using this
theorem mright1 {M : Nat → Int} {b : Bool} (ho : okM M = b) {w : World} {g cap : Nat} {t : TypeId} (h : Blk w g t #[.int .i64 (M 0), .int .i64 (M 1), .int .i64 (M 2), .int .i64 (M 3), .int .i64 (M 4), .int .i64 (M 5), .int .i64 (M 6), .int .i64 (M 7), .int .i64 (M 8), .int .i64 (M 9), .int .i64 (M 10), .int .i64 (M 11)]) :
    Calls Try.prog 32 #[.slice (some ⟨g, 0, none⟩) 1 cap] w fun e w' => e = .returned (.bool b) ∧ Below w.heap.size w w' :=
  (mright_any _ 1 cap [M] w (mrow1 h)).mono fun _ _ ⟨he, hw⟩ => ⟨by rw [he]; unfold rightM; simp [ho], hw⟩
end Go.Proofs.Ytffbehcbokmpkaa
