/-
  7 texts in one file, each with its own heading.
-/
import Derived.Test.YthhfcedhbfandaaGreatMS01
/-
  What package affine's along and column answer: a row's products with a vector, and one number more, added; a column.
-/
namespace Go.Proofs.YthhfcedhbfandaaGreat
open Go.RowKit

def alP (M : Nat → Int) (r : Nat) (V : Nat → Int) (j : Nat) : Int := mulV (M (4 * r + j)) (V j)
def alPE (M : Nat → Int) (r : Nat) (V : Nat → Int) (j : Nat) : Int := mulE (M (4 * r + j)) (V j)
def alF (M : Nat → Int) (r : Nat) (V : Nat → Int) : Int := first3 (alPE M r V 0) (alPE M r V 1) (alPE M r V 2)
def alL (M : Nat → Int) (r : Nat) (V : Nat → Int) (l : Int) : List Int := [alP M r V 0, alP M r V 1, alP M r V 2, l]
def alV (M : Nat → Int) (r : Nat) (V : Nat → Int) (l : Int) : Int := if alF M r V = 0 then addV (alL M r V l) else 0
def alE (M : Nat → Int) (r : Nat) (V : Nat → Int) (l : Int) : Int := if alF M r V = 0 then addE (alL M r V l) else alF M r V

theorem al_yes {M : Nat → Int} {r : Nat} {V : Nat → Int} (l : Int) (h : alF M r V = 0) : alV M r V l = addV (alL M r V l) ∧ alE M r V l = addE (alL M r V l) := by
  unfold alV alE; rw [if_pos h, if_pos h]; exact ⟨rfl, rfl⟩
theorem al_no {M : Nat → Int} {r : Nat} {V : Nat → Int} (l : Int) (h : alF M r V ≠ 0) : alV M r V l = 0 ∧ alE M r V l = alF M r V := by
  unfold alV alE; rw [if_neg h, if_neg h]; exact ⟨rfl, rfl⟩

theorem at_of (r p n : Nat) (w : World) (hr : r < 3) (hp : p < 4) (hn : n = 4 * r + p) :
    Calls Tryz.prog 286 #[.int .i64 r, .int .i64 p] w fun e w' => e = .returned (.int .i64 (n : Int)) ∧ w = w' := by
  subst hn; exact at_any r p w hr hp
theorem at3_of (r n : Nat) (w : World) (hr : r < 3) (hn : n = 4 * r + 3) :
    Calls Tryz.prog 286 #[.int .i64 r, .int .i64 3] w fun e w' => e = .returned (.int .i64 (n : Int)) ∧ w = w' := by
  subst hn; exact at_last r w hr

def termTo (f : Nat → Int) (l : Int) (k j : Nat) : Value := if j = 3 then .int .i64 l else laidTo f k j
theorem term_step (f : Nat → Int) (l : Int) (k j : Nat) (hk : k < 3) : (if j = k then Value.int .i64 (f k) else termTo f l k j) = termTo f l (k + 1) j := by
  unfold termTo
  by_cases e : j = 3
  · rw [if_neg (by omega), if_pos e, if_pos e]
  · rw [if_neg e, if_neg e]; exact laid_step f k j
theorem term_start (w : World) (t : TypeId) (f : Nat → Int) (l : Int) : (w.alloc (.cells #[.int .i64 0, .int .i64 0, .int .i64 0, .int .i64 l] t)).rowIs w.heap.size t 4 (termTo f l 0) := by
  refine (World.rowIs_alloc w _ t (termTo f l 0) (fun i hi => ?_))
  obtain rfl | rfl | rfl | rfl : i = 0 ∨ i = 1 ∨ i = 2 ∨ i = 3 := by simp at hi; omega
  · rfl
  · rfl
  · rfl
  · rfl
theorem rowIs_at {w : World} {b b' : Nat} {t : TypeId} {n : Nat} {f : Nat → Value} (h : w.rowIs b t n f) (e : b = b') : w.rowIs b' t n f := e ▸ h

set_option maxHeartbeats 1000000 in
theorem along_any (M : Nat → Int) (r : Nat) (V : Nat → Int) (l : Int) (w : World) (hr : r < 3) :
    Calls Tryz.prog 307 #[.agg #[.int .i64 (M 0), .int .i64 (M 1), .int .i64 (M 2), .int .i64 (M 3), .int .i64 (M 4), .int .i64 (M 5), .int .i64 (M 6), .int .i64 (M 7), .int .i64 (M 8), .int .i64 (M 9), .int .i64 (M 10), .int .i64 (M 11)], .int .i64 r, .agg #[.int .i64 (V 0), .int .i64 (V 1), .int .i64 (V 2)], .int .i64 l] w fun e w' => e = .returned (.tuple #[.int .i64 (alV M r V l), .int .i64 (alE M r V l)]) ∧ Below w.heap.size w w' := by
  go_enter Tryz.func307, Tryz.ntmps307
  go_wp2
  go_loopw [16] (fun i wr => ∃ k : Nat, k ≤ 3 ∧ i = .int .i64 k ∧ (∀ j, j < k → alPE M r V j = 0) ∧ wr.rowIs (w.heap.size + 2) 400 4 (termTo (alP M r V) l k) ∧ BM wr w.heap.size M ∧ BV3 wr (w.heap.size + 1) V ∧ Below w.heap.size w wr) (fun i _ => 3 - (intOf i).toNat)
  case atStart => exact ⟨0, by omega, rfl, fun j hj => by omega, rowIs_at (term_start _ _ _ _) (by simp), ((Blk.new w _ _).alloc _).alloc _, (blkAt ((Blk.new (w.alloc _) _ _).alloc _) (by simp)), balloc (balloc (alloc_below _ _) _) _⟩
  case round =>
    obtain ⟨k, hk, rfl, hz, hrow, hbm, hbv, hb⟩ := hrel
    have HZ := Lib.hid hz
    have HRow := Lib.hid hrow
    have HM := Lib.hid hbm
    have HV := Lib.hid hbv
    have HB := Lib.hid hb
    clear hz hrow hbm hbv hb
    by_cases hlt : k < 3
    · obtain ⟨n, hn⟩ : ∃ n, n = 4 * r + k := ⟨_, rfl⟩
      have HN := Lib.hid hn
      have hn12 : n < 12 := by omega
      clear hn
      have cx := Blk.at12 HM.out hn12
      have cy := Blk.at3 HV.out hlt
      obtain ⟨x, hx⟩ : ∃ x, x = M n := ⟨_, rfl⟩
      obtain ⟨y, hy⟩ : ∃ y, y = V k := ⟨_, rfl⟩
      have HD : Hid (alP M r V k = mulV x y ∧ alPE M r V k = mulE x y) := Lib.hid (by unfold alP alPE; rw [hx, hy, HN.out]; exact ⟨rfl, rfl⟩)
      rw [← hx] at cx
      rw [← hy] at cy
      clear hx hy
      have hk0 : (0 : Int) ≤ (k : Int) := by omega
      have hk3 : (k : Int) < 3 := by omega
      have hn0 : (0 : Int) ≤ (n : Int) := by omega
      have hn1 : (n : Int) < 12 := by omega
      go_wp2
      go_region_held3 (fun w' => w'.cell? ⟨w.heap.size, n, none⟩ = some (.int .i64 x) ∧ w'.cell? ⟨w.heap.size + 1, k, none⟩ = some (.int .i64 y)) (first | exact ⟨cell_keepD b2 cx, cell_keepD b2 cy⟩ | go_keep)
        (first | (go_at_call 286; refine (at_of r k n _ hr (by omega) HN.out).mono ?_; rintro e w1 ⟨rfl, rfl⟩) | (go_at_call 313; refine (mul_any _ _ _).mono ?_; rintro e w2 ⟨rfl, b2⟩))
      have B2 := Lib.hid (bdrew b2)
      clear b2 cx cy
      have HRow2 := Lib.hid (HRow.out.of_block (B2.out.block _ HRow.out.lt))
      have HM2 := Lib.hid (Blk.keep HM.out B2.out)
      have HV2 := Lib.hid (Blk.keep HV.out B2.out)
      have HB2 := Lib.hid (bthen HB.out B2.out)
      clear B2
      by_cases he : mulE x y = 0
      · have HEk := Lib.hid he
        have he' : (mulE x y != 0) = false := by rw [he]; rfl
        clear he
        have rc := HRow2.out.cell (i := k) (by omega)
        have rf := HRow2.out.frozen k
        have hk3' : k ≠ 3 := by omega
        unfold termTo laidTo at rc
        simp only [Nat.lt_irrefl, if_false, hk3'] at rc
        go_wp2
        go_roundw
        case rel => exact ⟨k + 1, by omega, by go_num, err_step HZ.out (by rw [HD.out.2]; exact HEk.out), (HRow2.out.set k _).congr (fun i _ => by rw [← HD.out.1]; exact term_step _ _ k i hlt), HM2.out.far (by simp; omega) _, HV2.out.far (by simp) _, HB2.out.setCell (by simp; omega) _⟩
        case measure => simp [intOf]; omega
      · have HEk := Lib.hid he
        have he' : (mulE x y != 0) = true := by simpa using he
        clear he
        go_wp2
        go_ret2
        have e1 : alF M r V = mulE x y := by
          rw [← HD.out.2]
          exact first3_at (e := alPE M r V) hlt HZ.out (by rw [HD.out.2]; exact HEk.out)
        have e2 : alF M r V ≠ 0 := by rw [e1]; exact HEk.out
        exact ⟨by rw [(al_no l e2).1, (al_no l e2).2, e1]; rfl, HB2.out⟩
    · obtain rfl : k = 3 := by omega
      have hrow : Row wr (some ⟨w.heap.size + 2, 0, none⟩) 4 (alL M r V l) := row_of_is rfl (by omega) (HRow.out.congr (fun i hi => by
        obtain rfl | rfl | rfl | rfl : i = 0 ∨ i = 1 ∨ i = 2 ∨ i = 3 := by omega
        · rfl
        · rfl
        · rfl
        · rfl))
      have HR := Lib.hid hrow
      clear hrow
      go_wp2_with fail
      refine (add_any _ _ _ _ _ HR.out).mono ?_
      rintro e w2 ⟨rfl, b2⟩
      have HB2 := Lib.hid (bthen HB.out b2)
      clear b2
      go_wp2
      go_ret2
      have e1 : alF M r V = 0 := first3_none (e := alPE M r V) HZ.out
      exact ⟨by rw [(al_yes l e1).1, (al_yes l e1).2]; rfl, HB2.out⟩

def colM (M : Nat → Int) (p j : Nat) : Int := M (4 * j + p)

set_option maxHeartbeats 1000000 in
theorem column_any (M : Nat → Int) (p : Nat) (w : World) (hp : p < 4) :
    Calls Tryz.prog 308 #[.agg #[.int .i64 (M 0), .int .i64 (M 1), .int .i64 (M 2), .int .i64 (M 3), .int .i64 (M 4), .int .i64 (M 5), .int .i64 (M 6), .int .i64 (M 7), .int .i64 (M 8), .int .i64 (M 9), .int .i64 (M 10), .int .i64 (M 11)], .int .i64 p] w fun e w' => e = .returned (.agg #[.int .i64 (colM M p 0), .int .i64 (colM M p 1), .int .i64 (colM M p 2)]) ∧ Below w.heap.size w w' := by
  go_enter Tryz.func308, Tryz.ntmps308
  go_wp2
  go_loopw [7] (fun i wr => ∃ k : Nat, k ≤ 3 ∧ i = .int .i64 k ∧ wr.rowIs (w.heap.size + 2) 48 3 (laidTo (colM M p) k) ∧ BM wr w.heap.size M ∧ Blk wr (w.heap.size + 1) 48 #[.int .i64 0, .int .i64 0, .int .i64 0] ∧ Below w.heap.size w wr) (fun i _ => 3 - (intOf i).toNat)
  case atStart => exact ⟨0, by omega, rfl, rowIs_at (laid_start _ _ _) (by simp), ((Blk.new w _ _).alloc _).alloc _, (blkAt ((Blk.new (w.alloc _) _ _).alloc _) (by simp)), balloc (balloc (alloc_below _ _) _) _⟩
  case round =>
    obtain ⟨k, hk, rfl, hrow, hbm, hres, hb⟩ := hrel
    have HRow := Lib.hid hrow
    have HM := Lib.hid hbm
    have HRes := Lib.hid hres
    have HB := Lib.hid hb
    clear hrow hbm hres hb
    by_cases hlt : k < 3
    · obtain ⟨n, hn⟩ : ∃ n, n = 4 * k + p := ⟨_, rfl⟩
      have HN := Lib.hid hn
      have hn12 : n < 12 := by omega
      clear hn
      have cx := Blk.at12 HM.out hn12
      have rc := HRow.out.cell (i := k) (by omega)
      have rf := HRow.out.frozen k
      unfold laidTo at rc
      simp only [Nat.lt_irrefl, if_false] at rc
      have hk0 : (0 : Int) ≤ (k : Int) := by omega
      have hk3 : (k : Int) < 3 := by omega
      have hn0 : (0 : Int) ≤ (n : Int) := by omega
      have hn1 : (n : Int) < 12 := by omega
      go_wp2_with fail
      refine (at_of k p n _ (by omega) (by omega) HN.out).mono ?_
      rintro e w1 ⟨rfl, rfl⟩
      go_wp2
      go_roundw
      case rel => exact ⟨k + 1, by omega, by go_num, (HRow.out.set k _).congr (fun i _ => by rw [show M n = colM M p k by unfold colM; rw [HN.out]]; exact laid_step _ k i), HM.out.far (by simp; omega) _, HRes.out.far (by simp) _, HB.out.setCell (by simp; omega) _⟩
      case measure => simp [intOf]; omega
    · obtain rfl : k = 3 := by omega
      have o0 : wr.cell? ⟨w.heap.size + 2, 0, none⟩ = some (.int .i64 (colM M p 0)) := HRow.out.cell (i := 0) (by omega)
      have o1 : wr.cell? ⟨w.heap.size + 2, 1, none⟩ = some (.int .i64 (colM M p 1)) := HRow.out.cell (i := 1) (by omega)
      have o2 : wr.cell? ⟨w.heap.size + 2, 2, none⟩ = some (.int .i64 (colM M p 2)) := HRow.out.cell (i := 2) (by omega)
      obtain ⟨z0, z1, z2, g0, g1, g2⟩ := blk3 HRes.out
      go_wp2
      exact bodyPost_ret (v := .agg #[.int .i64 (colM M p 0), .int .i64 (colM M p 1), .int .i64 (colM M p 2)]) (by simp [results, Tryz.results308, go_sem, z0, z1, z2]) rfl ⟨rfl, bset3 HB.out (by omega)⟩

def firstN (e : Nat → Int) : Nat → Int
  | 0 => 0
  | n + 1 => if firstN e n = 0 then e n else firstN e n
theorem firstN_none {e : Nat → Int} : ∀ {n : Nat}, (∀ j, j < n → e j = 0) → firstN e n = 0
  | 0, _ => rfl
  | n + 1, h => by
    unfold firstN
    rw [if_pos (firstN_none (fun j hj => h j (by omega)))]
    exact h n (by omega)
theorem firstN_at {e : Nat → Int} {k : Nat} (h : ∀ j, j < k → e j = 0) (he : e k ≠ 0) : ∀ {n : Nat}, k < n → firstN e n = e k
  | 0, hk => by omega
  | n + 1, hk => by
    unfold firstN
    by_cases c : k = n
    · subst c; rw [if_pos (firstN_none h)]
    · have i := firstN_at h he (n := n) (by omega)
      rw [if_neg (by rw [i]; exact he), i]
def pairL (A : Nat → Int) (r p : Nat) : Int := if p = 3 then A (4 * r + 3) else 0
def pV (A B : Nat → Int) (k : Nat) : Int := alV A (k / 4) (colM B (k % 4)) (pairL A (k / 4) (k % 4))
def pE (A B : Nat → Int) (k : Nat) : Int := alE A (k / 4) (colM B (k % 4)) (pairL A (k / 4) (k % 4))
def prodE2 (A B : Nat → Int) : Int := firstN (pE A B) 12
def prodM (A B : Nat → Int) (k : Nat) : Int := gate (prodE2 A B) (pV A B k)
theorem pV_at (A B : Nat → Int) {r p : Nat} (hp : p < 4) : pV A B (4 * r + p) = alV A r (colM B p) (pairL A r p) := by
  unfold pV; rw [show (4 * r + p) / 4 = r by omega, show (4 * r + p) % 4 = p by omega]
theorem pE_at (A B : Nat → Int) {r p : Nat} (hp : p < 4) : pE A B (4 * r + p) = alE A r (colM B p) (pairL A r p) := by
  unfold pE; rw [show (4 * r + p) / 4 = r by omega, show (4 * r + p) % 4 = p by omega]
theorem prod_ok {A B : Nat → Int} (h : prodE2 A B = 0) (k : Nat) : prodM A B k = pV A B k := by unfold prodM; rw [h]; rfl
theorem prod_no {A B : Nat → Int} (h : prodE2 A B ≠ 0) (k : Nat) : prodM A B k = 0 := by unfold prodM gate; rw [if_neg h]

theorem laid12_start (w : World) (t : TypeId) (f : Nat → Int) : (w.alloc (.cells #[.int .i64 0, .int .i64 0, .int .i64 0, .int .i64 0, .int .i64 0, .int .i64 0, .int .i64 0, .int .i64 0, .int .i64 0, .int .i64 0, .int .i64 0, .int .i64 0] t)).rowIs w.heap.size t 12 (laidTo f 0) := by
  refine (World.rowIs_alloc w _ t (laidTo f 0) (fun i hi => ?_))
  rcases lt12 (k := i) (by simpa using hi) with rfl | rfl | rfl | rfl | rfl | rfl | rfl | rfl | rfl | rfl | rfl | rfl <;> rfl
theorem blk_of_row {w : World} {b : Nat} {t : TypeId} {f : Nat → Int} (h : w.rowIs b t 12 (laidTo f (4 * 3))) : Blk w b t #[.int .i64 (f 0), .int .i64 (f 1), .int .i64 (f 2), .int .i64 (f 3), .int .i64 (f 4), .int .i64 (f 5), .int .i64 (f 6), .int .i64 (f 7), .int .i64 (f 8), .int .i64 (f 9), .int .i64 (f 10), .int .i64 (f 11)] := by
  obtain ⟨c, hh, hs, hc⟩ := h
  have e : c = #[.int .i64 (f 0), .int .i64 (f 1), .int .i64 (f 2), .int .i64 (f 3), .int .i64 (f 4), .int .i64 (f 5), .int .i64 (f 6), .int .i64 (f 7), .int .i64 (f 8), .int .i64 (f 9), .int .i64 (f 10), .int .i64 (f 11)] := by
    apply Array.ext
    · simp [hs]
    · intro i h1 h2
      have hi := hc i (by omega)
      rw [Array.getElem?_eq_getElem h1] at hi
      rcases lt12 (k := i) (by omega) with rfl | rfl | rfl | rfl | rfl | rfl | rfl | rfl | rfl | rfl | rfl | rfl <;> simpa [laidTo] using hi
  unfold Blk
  rw [hh, e]
theorem rangeM {w : World} {g : Nat} {t : TypeId} {A : Nat → Int} (hA : Blk w g t #[.int .i64 (A 0), .int .i64 (A 1), .int .i64 (A 2), .int .i64 (A 3), .int .i64 (A 4), .int .i64 (A 5), .int .i64 (A 6), .int .i64 (A 7), .int .i64 (A 8), .int .i64 (A 9), .int .i64 (A 10), .int .i64 (A 11)]) : w.rangeAt g 0 [.int .i64 (A 0), .int .i64 (A 1), .int .i64 (A 2), .int .i64 (A 3), .int .i64 (A 4), .int .i64 (A 5), .int .i64 (A 6), .int .i64 (A 7), .int .i64 (A 8), .int .i64 (A 9), .int .i64 (A 10), .int .i64 (A 11)] := fun j v hv => by
  rw [Nat.zero_add, hA.cell j]
  simpa using hv
theorem range2 {w : World} {g g' : Nat} {t t' : TypeId} {A B : Nat → Int} (hA : Blk w g t #[.int .i64 (A 0), .int .i64 (A 1), .int .i64 (A 2), .int .i64 (A 3), .int .i64 (A 4), .int .i64 (A 5), .int .i64 (A 6), .int .i64 (A 7), .int .i64 (A 8), .int .i64 (A 9), .int .i64 (A 10), .int .i64 (A 11)]) (hB : Blk w g' t' #[.int .i64 (B 0), .int .i64 (B 1), .int .i64 (B 2), .int .i64 (B 3), .int .i64 (B 4), .int .i64 (B 5), .int .i64 (B 6), .int .i64 (B 7), .int .i64 (B 8), .int .i64 (B 9), .int .i64 (B 10), .int .i64 (B 11)]) : w.rangeAt g 0 [.int .i64 (A 0), .int .i64 (A 1), .int .i64 (A 2), .int .i64 (A 3), .int .i64 (A 4), .int .i64 (A 5), .int .i64 (A 6), .int .i64 (A 7), .int .i64 (A 8), .int .i64 (A 9), .int .i64 (A 10), .int .i64 (A 11)] ∧ w.rangeAt g' 0 [.int .i64 (B 0), .int .i64 (B 1), .int .i64 (B 2), .int .i64 (B 3), .int .i64 (B 4), .int .i64 (B 5), .int .i64 (B 6), .int .i64 (B 7), .int .i64 (B 8), .int .i64 (B 9), .int .i64 (B 10), .int .i64 (B 11)] := ⟨rangeM hA, rangeM hB⟩
theorem sizeM (A : Nat → Int) : (Tryz.prog.info? 46).map (·.size) = some ([.int .i64 (A 0), .int .i64 (A 1), .int .i64 (A 2), .int .i64 (A 3), .int .i64 (A 4), .int .i64 (A 5), .int .i64 (A 6), .int .i64 (A 7), .int .i64 (A 8), .int .i64 (A 9), .int .i64 (A 10), .int .i64 (A 11)] : List Value).length := by kernel_rfl

theorem column_3 (M : Nat → Int) (w : World) :
    Calls Tryz.prog 308 #[.agg #[.int .i64 (M 0), .int .i64 (M 1), .int .i64 (M 2), .int .i64 (M 3), .int .i64 (M 4), .int .i64 (M 5), .int .i64 (M 6), .int .i64 (M 7), .int .i64 (M 8), .int .i64 (M 9), .int .i64 (M 10), .int .i64 (M 11)], .int .i64 3] w fun e w' => e = .returned (.agg #[.int .i64 (colM M 3 0), .int .i64 (colM M 3 1), .int .i64 (colM M 3 2)]) ∧ Below w.heap.size w w' := column_any M 3 w (by omega)

set_option maxHeartbeats 4000000 in
theorem pair_any (A B : Nat → Int) (w : World) :
    Calls Tryz.prog 287 #[.agg #[.int .i64 (A 0), .int .i64 (A 1), .int .i64 (A 2), .int .i64 (A 3), .int .i64 (A 4), .int .i64 (A 5), .int .i64 (A 6), .int .i64 (A 7), .int .i64 (A 8), .int .i64 (A 9), .int .i64 (A 10), .int .i64 (A 11)], .agg #[.int .i64 (B 0), .int .i64 (B 1), .int .i64 (B 2), .int .i64 (B 3), .int .i64 (B 4), .int .i64 (B 5), .int .i64 (B 6), .int .i64 (B 7), .int .i64 (B 8), .int .i64 (B 9), .int .i64 (B 10), .int .i64 (B 11)]] w fun e w' => e = .returned (.tuple #[.agg #[.int .i64 (prodM A B 0), .int .i64 (prodM A B 1), .int .i64 (prodM A B 2), .int .i64 (prodM A B 3), .int .i64 (prodM A B 4), .int .i64 (prodM A B 5), .int .i64 (prodM A B 6), .int .i64 (prodM A B 7), .int .i64 (prodM A B 8), .int .i64 (prodM A B 9), .int .i64 (prodM A B 10), .int .i64 (prodM A B 11)], .int .i64 (prodE2 A B)]) ∧ Below w.heap.size w w' := by
  go_enter Tryz.func287, Tryz.ntmps287
  go_wp2
  go_loopw [12] (fun i wr => ∃ r : Nat, r ≤ 3 ∧ i = .int .i64 r ∧ (∀ j, j < 4 * r → pE A B j = 0) ∧ wr.rowIs (w.heap.size + 3) 46 12 (laidTo (pV A B) (4 * r)) ∧ BM wr w.heap.size A ∧ BM wr (w.heap.size + 1) B ∧ Blk wr (w.heap.size + 2) 46 #[.int .i64 0, .int .i64 0, .int .i64 0, .int .i64 0, .int .i64 0, .int .i64 0, .int .i64 0, .int .i64 0, .int .i64 0, .int .i64 0, .int .i64 0, .int .i64 0] ∧ Below w.heap.size w wr) (fun i _ => 3 - (intOf i).toNat)
  case atStart => exact ⟨0, by omega, rfl, fun j hj => by omega, rowIs_at (laid12_start _ _ _) (by simp), (((Blk.new w _ _).alloc _).alloc _).alloc _, (blkAt (((Blk.new (w.alloc _) _ _).alloc _).alloc _) (by simp)), (blkAt ((Blk.new ((w.alloc _).alloc _) _ _).alloc _) (by simp)), balloc (balloc (balloc (alloc_below _ _) _) _) _⟩
  case round =>
    obtain ⟨r, hr3, rfl, hz, hrow, ha, hbm, hres, hb⟩ := hrel
    have HZ := Lib.hid hz
    have HRow := Lib.hid hrow
    have HA := Lib.hid ha
    have HBm := Lib.hid hbm
    have HRes := Lib.hid hres
    have HB := Lib.hid hb
    clear hz hrow ha hbm hres hb
    by_cases hr : r < 3
    · have hrd : decide ((r : Int) < 3) = true := by simp; omega
      go_wp2
      go_loopw [15] (fun i wi => ∃ p : Nat, p ≤ 4 ∧ i = .int .i64 p ∧ (∀ j, j < 4 * r + p → pE A B j = 0) ∧ wi.rowIs (w.heap.size + 3) 46 12 (laidTo (pV A B) (4 * r + p)) ∧ BM wi w.heap.size A ∧ BM wi (w.heap.size + 1) B ∧ Blk wi (w.heap.size + 2) 46 #[.int .i64 0, .int .i64 0, .int .i64 0, .int .i64 0, .int .i64 0, .int .i64 0, .int .i64 0, .int .i64 0, .int .i64 0, .int .i64 0, .int .i64 0, .int .i64 0] ∧ Below w.heap.size w wi) (fun i _ => 4 - (intOf i).toNat)
      case atStart => exact ⟨0, by omega, rfl, HZ.out, HRow.out, HA.out, HBm.out, HRes.out, HB.out⟩
      case round =>
        clear HZ HRow HA HBm HRes HB
        obtain ⟨p, hp4, rfl, hz, hrow, ha, hbm, hres, hb⟩ := hrel
        have HZ := Lib.hid hz
        have HRow := Lib.hid hrow
        have HA := Lib.hid ha
        have HBm := Lib.hid hbm
        have HRes := Lib.hid hres
        have HB := Lib.hid hb
        clear hz hrow ha hbm hres hb
        by_cases hp : p < 4
        · obtain ⟨n, hn⟩ : ∃ n, n = 4 * r + p := ⟨_, rfl⟩
          have HN := Lib.hid hn
          have hn12 : n < 12 := by omega
          clear hn
          have hp0 : (0 : Int) ≤ (p : Int) := by omega
          have hpd : (p : Int) < 4 := by omega
          have hn0 : (0 : Int) ≤ (n : Int) := by omega
          have hn1 : (n : Int) < 12 := by omega
          have hsA := sizeM A
          have hsB := sizeM B
          have hu := Tryz.underlying46
          obtain ⟨l, hl⟩ : ∃ l, l = pairL A r p := ⟨_, rfl⟩
          have HD : Hid (pV A B n = alV A r (colM B p) l ∧ pE A B n = alE A r (colM B p) l) := Lib.hid (by rw [HN.out, hl]; exact ⟨pV_at A B hp, pE_at A B hp⟩)
          by_cases h3 : p = 3
          · subst h3
            have hl' : l = A n := by rw [hl, HN.out]; rfl
            clear hl
            have cm := Blk.at12 HA.out hn12
            rw [← hl'] at cm
            clear hl'
            go_wp2_with fail
            refine (at3_of r n _ hr HN.out).mono ?_
            rintro e w1 ⟨rfl, rfl⟩
            go_wp2
            clear cm
            refine wp_region_held_drew (S := fun w' => w'.rangeAt w.heap.size 0 [.int .i64 (A 0), .int .i64 (A 1), .int .i64 (A 2), .int .i64 (A 3), .int .i64 (A 4), .int .i64 (A 5), .int .i64 (A 6), .int .i64 (A 7), .int .i64 (A 8), .int .i64 (A 9), .int .i64 (A 10), .int .i64 (A 11)] ∧ w'.rangeAt (w.heap.size + 1) 0 [.int .i64 (B 0), .int .i64 (B 1), .int .i64 (B 2), .int .i64 (B 3), .int .i64 (B 4), .int .i64 (B 5), .int .i64 (B 6), .int .i64 (B 7), .int .i64 (B 8), .int .i64 (B 9), .int .i64 (B 10), .int .i64 (B 11)]) (by kernel_rfl) (range2 (Blk.drew HA.out) (Blk.drew HBm.out)) (fun hHeld => ?_)
            refine tkl 0 rfl (yieldsIf_load_mid (by rfl) _ _ rfl _ _ rfl _ _ (fun _ h => h.1) hu rfl hsA) hHeld ?_
            refine tk 1 hHeld ?_
            refine tkl 2 rfl (yieldsIf_load_mid (by rfl) _ _ rfl _ _ rfl _ _ (fun _ h => h.2) hu rfl hsB) hHeld ?_
            refine tk 3 hHeld ?_
            refine tk 5 hHeld ?_
            refine rd 4 (fun K hK => ?_)
            go_simp
            go_at_call 308
            refine (column_3 B _).mono ?_
            rintro e w2 ⟨rfl, b2⟩
            go_wp2_with fail
            refine hK.out _ _ (range2 (Blk.keep HA.out (bdrew b2)) (Blk.keep HBm.out (bdrew b2))) (fun hHeld => ?_)
            clear hK K
            refine rd 6 (fun K hK => ?_)
            go_simp
            go_at_call 307
            refine (along_any A r (colM B 3) l _ hr).mono ?_
            rintro e w3 ⟨rfl, b3⟩
            go_wp2_with fail
            refine hK.out _ _ (range2 (Blk.keep (Blk.keep HA.out (bdrew b2)) b3) (Blk.keep (Blk.keep HBm.out (bdrew b2)) b3)) (fun hHeld => ?_)
            clear hK K
            refine tk 7 hHeld ?_
            refine tk 8 hHeld ?_
            refine tk 9 hHeld ?_
            refine tk 10 hHeld ?_
            refine tk 11 hHeld ?_
            refine wpAnyH_done (by kernel_rfl) ?_ _
            have B3 := Lib.hid (bthen (bdrew b2) b3)
            clear hHeld
            clear b2 b3
            have HRow2 := Lib.hid (HRow.out.of_block (B3.out.block _ HRow.out.lt))
            have HA2 := Lib.hid (Blk.keep HA.out B3.out)
            have HBm2 := Lib.hid (Blk.keep HBm.out B3.out)
            have HRes2 := Lib.hid (Blk.keep HRes.out B3.out)
            have HB2 := Lib.hid (bthen HB.out B3.out)
            clear B3 HRow HA HBm HRes HB
            obtain ⟨x, hx⟩ : ∃ x, x = alV A r (colM B 3) l := ⟨_, rfl⟩
            obtain ⟨y, hy⟩ : ∃ y, y = alE A r (colM B 3) l := ⟨_, rfl⟩
            rw [← hx, ← hy] at HD
            rw [← hx, ← hy]
            clear hx hy
            by_cases he : y = 0
            · have HEk := Lib.hid he
              have he' : (y != 0) = false := by rw [he]; rfl
              clear he
              have rc := HRow2.out.cell (i := n) (by omega)
              have rf := HRow2.out.frozen n
              have hnn : ¬ (n < 4 * r + 3) := by have := HN.out; omega
              unfold laidTo at rc
              rw [if_neg hnn] at rc
              clear hnn
              go_wp2_with fail
              refine (at3_of r n _ hr HN.out).mono ?_
              rintro e w4 ⟨rfl, rfl⟩
              go_wp2
              go_roundw
              case rel => exact ⟨3 + 1, by omega, by go_num, by rw [show 4 * r + (3 + 1) = n + 1 by have := HN.out; omega]; exact err_step (by rw [HN.out]; exact HZ.out) (by rw [HD.out.2]; exact HEk.out), (HRow2.out.set n _).congr (fun i _ => by rw [← HD.out.1, show 4 * r + (3 + 1) = n + 1 by have := HN.out; omega, show 4 * r + 3 = n from HN.out.symm]; exact laid_step _ n i), HA2.out.far (by simp <;> omega) _, HBm2.out.far (by simp <;> omega) _, HRes2.out.far (by simp) _, HB2.out.setCell (by simp <;> omega) _⟩
              case measure => simp [intOf] <;> omega
            · have HEk := Lib.hid he
              have he' : (y != 0) = true := by simpa using he
              clear he HRow2 HA2 HBm2
              obtain ⟨c0, c1, c2, c3, c4, c5, c6, c7, c8, c9, c10, c11, f0, f1, f2, f3, f4, f5, f6, f7, f8, f9, f10, f11⟩ := blk12 HRes2.out
              go_wp2
              have e1 : prodE2 A B = y := by
                rw [← HD.out.2]
                exact firstN_at (e := pE A B) (by rw [HN.out]; exact HZ.out) (by rw [HD.out.2]; exact HEk.out) hn12
              have e2 : prodE2 A B ≠ 0 := by rw [e1]; exact HEk.out
              exact bodyPost_ret (v := .tuple #[.agg #[.int .i64 0, .int .i64 0, .int .i64 0, .int .i64 0, .int .i64 0, .int .i64 0, .int .i64 0, .int .i64 0, .int .i64 0, .int .i64 0, .int .i64 0, .int .i64 0], .int .i64 y]) (by simp [results, Tryz.results287, go_sem, c0, c1, c2, c3, c4, c5, c6, c7, c8, c9, c10, c11]) rfl ⟨by rw [prod_no e2 0, prod_no e2 1, prod_no e2 2, prod_no e2 3, prod_no e2 4, prod_no e2 5, prod_no e2 6, prod_no e2 7, prod_no e2 8, prod_no e2 9, prod_no e2 10, prod_no e2 11, e1], bset12 HB2.out (by omega)⟩
          · have hl' : l = 0 := by rw [hl]; unfold pairL; rw [if_neg h3]
            clear hl
            subst hl'
            have hd1 : ((p : Int) == 3) = false := by simp; omega
            have hd2 : decide ((p : Int) = 3) = false := by simp; omega
            go_wp2
            refine wp_region_held_drew (S := fun w' => w'.rangeAt w.heap.size 0 [.int .i64 (A 0), .int .i64 (A 1), .int .i64 (A 2), .int .i64 (A 3), .int .i64 (A 4), .int .i64 (A 5), .int .i64 (A 6), .int .i64 (A 7), .int .i64 (A 8), .int .i64 (A 9), .int .i64 (A 10), .int .i64 (A 11)] ∧ w'.rangeAt (w.heap.size + 1) 0 [.int .i64 (B 0), .int .i64 (B 1), .int .i64 (B 2), .int .i64 (B 3), .int .i64 (B 4), .int .i64 (B 5), .int .i64 (B 6), .int .i64 (B 7), .int .i64 (B 8), .int .i64 (B 9), .int .i64 (B 10), .int .i64 (B 11)]) (by kernel_rfl) (range2 (Blk.drew HA.out) (Blk.drew HBm.out)) (fun hHeld => ?_)
            refine tkl 0 rfl (yieldsIf_load_mid (by rfl) _ _ rfl _ _ rfl _ _ (fun _ h => h.1) hu rfl hsA) hHeld ?_
            refine tk 1 hHeld ?_
            refine tkl 2 rfl (yieldsIf_load_mid (by rfl) _ _ rfl _ _ rfl _ _ (fun _ h => h.2) hu rfl hsB) hHeld ?_
            refine tk 3 hHeld ?_
            refine tk 5 hHeld ?_
            refine rd 4 (fun K hK => ?_)
            go_simp
            go_at_call 308
            refine (column_any B p _ hp).mono ?_
            rintro e w2 ⟨rfl, b2⟩
            go_wp2_with fail
            refine hK.out _ _ (range2 (Blk.keep HA.out (bdrew b2)) (Blk.keep HBm.out (bdrew b2))) (fun hHeld => ?_)
            clear hK K
            refine rd 6 (fun K hK => ?_)
            go_simp
            go_at_call 307
            refine (along_any A r (colM B p) 0 _ hr).mono ?_
            rintro e w3 ⟨rfl, b3⟩
            go_wp2_with fail
            refine hK.out _ _ (range2 (Blk.keep (Blk.keep HA.out (bdrew b2)) b3) (Blk.keep (Blk.keep HBm.out (bdrew b2)) b3)) (fun hHeld => ?_)
            clear hK K
            refine tk 7 hHeld ?_
            refine tk 8 hHeld ?_
            refine tk 9 hHeld ?_
            refine tk 10 hHeld ?_
            refine tk 11 hHeld ?_
            refine wpAnyH_done (by kernel_rfl) ?_ _
            have B3 := Lib.hid (bthen (bdrew b2) b3)
            clear hHeld
            clear b2 b3
            have HRow2 := Lib.hid (HRow.out.of_block (B3.out.block _ HRow.out.lt))
            have HA2 := Lib.hid (Blk.keep HA.out B3.out)
            have HBm2 := Lib.hid (Blk.keep HBm.out B3.out)
            have HRes2 := Lib.hid (Blk.keep HRes.out B3.out)
            have HB2 := Lib.hid (bthen HB.out B3.out)
            clear B3 HRow HA HBm HRes HB
            obtain ⟨x, hx⟩ : ∃ x, x = alV A r (colM B p) 0 := ⟨_, rfl⟩
            obtain ⟨y, hy⟩ : ∃ y, y = alE A r (colM B p) 0 := ⟨_, rfl⟩
            rw [← hx, ← hy] at HD
            rw [← hx, ← hy]
            clear hx hy
            by_cases he : y = 0
            · have HEk := Lib.hid he
              have he' : (y != 0) = false := by rw [he]; rfl
              clear he
              have rc := HRow2.out.cell (i := n) (by omega)
              have rf := HRow2.out.frozen n
              have hnn : ¬ (n < 4 * r + p) := by have := HN.out; omega
              unfold laidTo at rc
              rw [if_neg hnn] at rc
              clear hnn
              go_wp2_with fail
              refine (at_of r p n _ hr hp HN.out).mono ?_
              rintro e w4 ⟨rfl, rfl⟩
              go_wp2
              go_roundw
              case rel => exact ⟨p + 1, by omega, by go_num, by rw [show 4 * r + (p + 1) = n + 1 by have := HN.out; omega]; exact err_step (by rw [HN.out]; exact HZ.out) (by rw [HD.out.2]; exact HEk.out), (HRow2.out.set n _).congr (fun i _ => by rw [← HD.out.1, show 4 * r + (p + 1) = n + 1 by have := HN.out; omega, show 4 * r + p = n from HN.out.symm]; exact laid_step _ n i), HA2.out.far (by simp <;> omega) _, HBm2.out.far (by simp <;> omega) _, HRes2.out.far (by simp) _, HB2.out.setCell (by simp <;> omega) _⟩
              case measure => simp [intOf] <;> omega
            · have HEk := Lib.hid he
              have he' : (y != 0) = true := by simpa using he
              clear he HRow2 HA2 HBm2
              obtain ⟨c0, c1, c2, c3, c4, c5, c6, c7, c8, c9, c10, c11, f0, f1, f2, f3, f4, f5, f6, f7, f8, f9, f10, f11⟩ := blk12 HRes2.out
              go_wp2
              have e1 : prodE2 A B = y := by
                rw [← HD.out.2]
                exact firstN_at (e := pE A B) (by rw [HN.out]; exact HZ.out) (by rw [HD.out.2]; exact HEk.out) hn12
              have e2 : prodE2 A B ≠ 0 := by rw [e1]; exact HEk.out
              exact bodyPost_ret (v := .tuple #[.agg #[.int .i64 0, .int .i64 0, .int .i64 0, .int .i64 0, .int .i64 0, .int .i64 0, .int .i64 0, .int .i64 0, .int .i64 0, .int .i64 0, .int .i64 0, .int .i64 0], .int .i64 y]) (by simp [results, Tryz.results287, go_sem, c0, c1, c2, c3, c4, c5, c6, c7, c8, c9, c10, c11]) rfl ⟨by rw [prod_no e2 0, prod_no e2 1, prod_no e2 2, prod_no e2 3, prod_no e2 4, prod_no e2 5, prod_no e2 6, prod_no e2 7, prod_no e2 8, prod_no e2 9, prod_no e2 10, prod_no e2 11, e1], bset12 HB2.out (by omega)⟩
        · obtain rfl : p = 4 := by omega
          go_wp2
          go_roundw
          case rel => exact ⟨r + 1, by omega, by go_num, HZ.out, HRow.out, HA.out, HBm.out, HRes.out, HB.out⟩
          case measure => simp [intOf] <;> omega
    · obtain rfl : r = 3 := by omega
      have hE : prodE2 A B = 0 := firstN_none HZ.out
      have HE := Lib.hid hE
      clear hE
      have hm : Blk wr (w.heap.size + 3) 46 #[.int .i64 (pV A B 0), .int .i64 (pV A B 1), .int .i64 (pV A B 2), .int .i64 (pV A B 3), .int .i64 (pV A B 4), .int .i64 (pV A B 5), .int .i64 (pV A B 6), .int .i64 (pV A B 7), .int .i64 (pV A B 8), .int .i64 (pV A B 9), .int .i64 (pV A B 10), .int .i64 (pV A B 11)] := blk_of_row HRow.out
      clear HZ HRow HA HBm
      obtain ⟨o0, o1, o2, o3, o4, o5, o6, o7, o8, o9, o10, o11, _, _, _, _, _, _, _, _, _, _, _, _⟩ := blk12 hm
      obtain ⟨c0, c1, c2, c3, c4, c5, c6, c7, c8, c9, c10, c11, f0, f1, f2, f3, f4, f5, f6, f7, f8, f9, f10, f11⟩ := blk12 HRes.out
      clear hm
      go_wp2
      exact bodyPost_ret (v := .tuple #[.agg #[.int .i64 (pV A B 0), .int .i64 (pV A B 1), .int .i64 (pV A B 2), .int .i64 (pV A B 3), .int .i64 (pV A B 4), .int .i64 (pV A B 5), .int .i64 (pV A B 6), .int .i64 (pV A B 7), .int .i64 (pV A B 8), .int .i64 (pV A B 9), .int .i64 (pV A B 10), .int .i64 (pV A B 11)], .int .i64 0]) (by simp [results, Tryz.results287, go_sem, c0, c1, c2, c3, c4, c5, c6, c7, c8, c9, c10, c11]) rfl ⟨by rw [prod_ok HE.out 0, prod_ok HE.out 1, prod_ok HE.out 2, prod_ok HE.out 3, prod_ok HE.out 4, prod_ok HE.out 5, prod_ok HE.out 6, prod_ok HE.out 7, prod_ok HE.out 8, prod_ok HE.out 9, prod_ok HE.out 10, prod_ok HE.out 11, HE.out], bset12 HB.out (by omega)⟩

def v3 (x y z : Int) (j : Nat) : Int := [x, y, z].getD j 0
theorem mrow1 {w : World} {g : Nat} {t : TypeId} {M : Nat → Int} (h : Blk w g t #[.int .i64 (M 0), .int .i64 (M 1), .int .i64 (M 2), .int .i64 (M 3), .int .i64 (M 4), .int .i64 (M 5), .int .i64 (M 6), .int .i64 (M 7), .int .i64 (M 8), .int .i64 (M 9), .int .i64 (M 10), .int .i64 (M 11)]) : MRow w (some ⟨g, 0, none⟩) 1 [M] := by
  refine ⟨rfl, by omega, Or.inr ⟨_, _, rfl, fun i hi j hj => ?_⟩⟩
  obtain rfl : i = 0 := by omega
  have := h.at12 hj
  simpa using this
theorem mright1 {M : Nat → Int} {b : Bool} (ho : okM M = b) {w : World} {g cap : Nat} {t : TypeId} (h : Blk w g t #[.int .i64 (M 0), .int .i64 (M 1), .int .i64 (M 2), .int .i64 (M 3), .int .i64 (M 4), .int .i64 (M 5), .int .i64 (M 6), .int .i64 (M 7), .int .i64 (M 8), .int .i64 (M 9), .int .i64 (M 10), .int .i64 (M 11)]) :
    Calls Tryz.prog 188 #[.slice (some ⟨g, 0, none⟩) 1 cap] w fun e w' => e = .returned (.bool b) ∧ Below w.heap.size w w' :=
  (mright_any _ 1 cap [M] w (mrow1 h)).mono fun _ _ ⟨he, hw⟩ => ⟨by rw [he]; unfold rightM; simp [ho], hw⟩
theorem boxTo_parts {B : Nat → Int} (h : okBox B = true) : rightV [(B 0, B 1, B 2), (B 3, B 4, B 5)] = true ∧ B 0 ≤ B 3 ∧ B 1 ≤ B 4 ∧ B 2 ≤ B 5 := by
  unfold okBox boxTo boxTo boxTo boxTo at h
  have h4 : ((rightV [(B 0, B 1, B 2), (B 3, B 4, B 5)] = true ∧ B 0 ≤ B (3 + 0)) ∧ B 1 ≤ B (3 + 1)) ∧ B 2 ≤ B (3 + 2) := by simpa using h
  exact ⟨h4.1.1.1, h4.1.1.2, h4.1.2, h4.2⟩
theorem okBox_at {B : Nat → Int} (h : okBox B = true) {k : Nat} (hk : k < 6) : okB (B k) = true := by
  have hr := (boxTo_parts h).1
  rw [rightV2] at hr
  obtain ⟨ha, hb⟩ := ok6_parts hr
  obtain ⟨a0, a1, a2⟩ := ok3_parts ha
  obtain ⟨b0, b1, b2⟩ := ok3_parts hb
  rcases lt6 hk with rfl | rfl | rfl | rfl | rfl | rfl
  · exact a0
  · exact a1
  · exact a2
  · exact b0
  · exact b1
  · exact b2
end Go.Proofs.YthhfcedhbfandaaGreat
