/-
  What the reference's Sub, Scale and Dot of layer 2 answer.
-/
import Derived.Test.YtcmliidkkgkgcaaVecI
import Derived.Deep.QuietTactic
import Derived.BigQuiet
namespace Go.Proofs.Ytcmliidkkgkgcaa
open Go.RowKit

theorem Blk.drewN {w : World} {g : Nat} {t : TypeId} {cs : Array Value} (h : Blk w g t cs) (n : Nat) : Blk (w.drewN n) g t cs := h
theorem rowIs_drewN {w : World} {b : Nat} {t : TypeId} {m : Nat} {f : Nat → Value} (h : w.rowIs b t m f) (n : Nat) : (w.drewN n).rowIs b t m f := h
theorem Blk.atK {w : World} {g : Nat} {t : TypeId} {x y z : Int} (h : Blk w g t #[.int .i64 x, .int .i64 y, .int .i64 z]) {k : Nat} (hk : k < 3) : w.cell? ⟨g, k, none⟩ = some (.int .i64 (compK k (x, y, z))) := by
  obtain rfl | rfl | rfl : k = 0 ∨ k = 1 ∨ k = 2 := by omega
  · exact h.cell 0
  · exact h.cell 1
  · exact h.cell 2

/-- what was laid so far, place by place -/
def laidTo (f : Nat → Int) (k j : Nat) : Value := if j < k then .int .i64 (f j) else .int .i64 0
theorem laid_step (f : Nat → Int) (k j : Nat) : (if j = k then Value.int .i64 (f k) else laidTo f k j) = laidTo f (k + 1) j := by
  unfold laidTo
  by_cases e : j = k
  · subst e; rw [if_pos rfl, if_pos (by omega)]
  · rw [if_neg e]
    by_cases e2 : j < k
    · rw [if_pos e2, if_pos (by omega)]
    · rw [if_neg e2, if_neg (by omega)]
theorem laid_start (w : World) (t : TypeId) (f : Nat → Int) : (w.alloc (.cells #[.int .i64 0, .int .i64 0, .int .i64 0] t)).rowIs w.heap.size t 3 (laidTo f 0) := by
  refine (World.rowIs_alloc w _ t (laidTo f 0) (fun i hi => ?_))
  obtain rfl | rfl | rfl : i = 0 ∨ i = 1 ∨ i = 2 := by simp at hi; omega
  · rfl
  · rfl
  · rfl
theorem err_step {e : Nat → Int} {k : Nat} (h : ∀ j, j < k → e j = 0) (he : e k = 0) : ∀ j, j < k + 1 → e j = 0 := fun i hi => by
  by_cases c : i = k
  · rw [c]; exact he
  · exact h i (by omega)

theorem bok_step {e : Nat → Bool} {k : Nat} (h : ∀ j, j < k → e j = true) (he : e k = true) : ∀ j, j < k + 1 → e j = true := fun i hi => by
  by_cases c : i = k
  · rw [c]; exact he
  · exact h i (by omega)

theorem fit_yes {x : Int} (h : okB x = true) : fitV x = x ∧ fitE x = 0 := by unfold fitV fitE; rw [if_pos h, if_pos h]; exact ⟨rfl, rfl⟩
theorem fit_no {x : Int} (h : okB x = false) : fitE x = 6 := by unfold fitE; rw [h]; rfl

theorem rright1_yes {k : Int} (hk : okB k = true) {w : World} {a : Option Addr} {cap : Nat} (row : Row w a 1 [k]) :
    Calls Try.prog 28 #[.slice a 1 cap] w fun e w' => e = .returned (.bool true) ∧ w = w' :=
  (rright_any a 1 cap [k] w row).mono fun _ _ ⟨he, hw⟩ => ⟨by rw [he, rightB1, hk], hw⟩
theorem rright1_no {k : Int} (hk : okB k = false) {w : World} {a : Option Addr} {cap : Nat} (row : Row w a 1 [k]) :
    Calls Try.prog 28 #[.slice a 1 cap] w fun e w' => e = .returned (.bool false) ∧ w = w' :=
  (rright_any a 1 cap [k] w row).mono fun _ _ ⟨he, hw⟩ => ⟨by rw [he, rightB1, hk], hw⟩

theorem ok3_K {x y z : Int} (h : ok3 x y z = true) (k : Nat) : okB (compK k (x, y, z)) = true := by
  obtain ⟨h0, h1, h2⟩ := ok3_parts h
  unfold compK
  by_cases e0 : k = 0
  · rw [if_pos e0]; exact h0
  · rw [if_neg e0]
    by_cases e1 : k = 1
    · rw [if_pos e1]; exact h1
    · rw [if_neg e1]; exact h2

/-- the differences, place by place -/
def difK (X Y : V3) (k : Nat) : Int := compK k X - compK k Y

set_option maxHeartbeats 400000 in
theorem rvsub_no (x0 x1 x2 y0 y1 y2 : Int) (w : World) (hr : ok6 x0 x1 x2 y0 y1 y2 = false) :
    Calls Try.prog 10 #[.agg #[.int .i64 x0, .int .i64 x1, .int .i64 x2], .agg #[.int .i64 y0, .int .i64 y1, .int .i64 y2]] w fun e w' => e = .returned (.tuple #[.agg #[.int .i64 0, .int .i64 0, .int .i64 0], .int .i64 1]) ∧ Below w.heap.size w w' := by
  have HR := Lib.hid ((rightV2 x0 x1 x2 y0 y1 y2).trans hr)
  clear hr
  go_enter Try.func10, Try.ntmps10
  go_wp2_with fail
  refine (rvright_no HR.out (vrow2 (blkAt (Blk.new _ _ _) (by simp)))).mono ?_
  rintro e w1 ⟨rfl, b1⟩
  have k1 := Lib.hid (blkAt (((Blk.new ((w.alloc _).alloc _) 25 _).alloc _).keep b1) (g' := w.heap.size + 2) (by simp))
  have B1 := Lib.hid (bthen (balloc (balloc (balloc (alloc_below _ _) _) _) _) b1)
  clear b1
  obtain ⟨c10, c11, c12, f10, f11, f12⟩ := blk3 k1.out
  go_wp2
  exact bodyPost_ret (v := .tuple #[.agg #[.int .i64 0, .int .i64 0, .int .i64 0], .int .i64 1]) (by simp [results, Try.results10, go_sem, c10, c11, c12]) rfl ⟨rfl, bset3 B1.out (by omega)⟩

set_option maxHeartbeats 1000000 in
theorem rvsub_yes (x0 x1 x2 y0 y1 y2 : Int) (w : World) (hr : ok6 x0 x1 x2 y0 y1 y2 = true) :
    Calls Try.prog 10 #[.agg #[.int .i64 x0, .int .i64 x1, .int .i64 x2], .agg #[.int .i64 y0, .int .i64 y1, .int .i64 y2]] w fun e w' => e = .returned (.tuple #[.agg #[.int .i64 (gate (vsubE x0 x1 x2 y0 y1 y2) (fitV (x0 - y0))), .int .i64 (gate (vsubE x0 x1 x2 y0 y1 y2) (fitV (x1 - y1))), .int .i64 (gate (vsubE x0 x1 x2 y0 y1 y2) (fitV (x2 - y2)))], .int .i64 (vsubE x0 x1 x2 y0 y1 y2)]) ∧ Below w.heap.size w w' := by
  have HE := Lib.hid (vsubE_yes hr)
  have HA := Lib.hid (ok6_parts hr)
  have HR := Lib.hid ((rightV2 x0 x1 x2 y0 y1 y2).trans hr)
  clear hr
  go_enter Try.func10, Try.ntmps10
  go_wp2_with fail
  refine (rvright_yes HR.out (vrow2 (blkAt (Blk.new _ _ _) (by simp)))).mono ?_
  rintro e w1 ⟨rfl, b1⟩
  have K1 := Lib.hid (blkAt (((Blk.new ((w.alloc _).alloc _) 25 _).alloc _).keep b1) (g' := w.heap.size + 2) (by simp))
  have P1 := Lib.hid (((((Blk.new w 25 _).alloc _).alloc _).alloc _).keep b1)
  have Q1 := Lib.hid (blkAt ((((Blk.new (w.alloc _) 25 _).alloc _).alloc _).keep b1) (g' := w.heap.size + 1) (by simp))
  have B1 := Lib.hid (bthen (balloc (balloc (balloc (alloc_below _ _) _) _) _) b1)
  clear b1
  go_wp2
  go_loopw [8] (fun i wr => ∃ k : Nat, k ≤ 3 ∧ i = .int .i64 k ∧ (∀ j, j < k → okB (difK (x0, x1, x2) (y0, y1, y2) j) = true) ∧ wr.rowIs w1.heap.size 25 3 (laidTo (difK (x0, x1, x2) (y0, y1, y2)) k) ∧ Below w1.heap.size w1 wr) (fun i _ => 3 - (intOf i).toNat)
  case atStart => exact ⟨0, by omega, rfl, fun j hj => by omega, laid_start _ _ _, alloc_below _ _⟩
  case round =>
    obtain ⟨k, hk, rfl, hz, hrow, hb⟩ := hrel
    have HZ := Lib.hid hz
    have HOut := Lib.hid hrow
    have HB := Lib.hid hb
    clear hz hrow hb
    by_cases hlt : k < 3
    · have cx := (P1.out.keep HB.out).atK hlt
      have cy := (Q1.out.keep HB.out).atK hlt
      have ox := okB_iff.1 (ok3_K HA.out.1 k)
      have oy := okB_iff.1 (ok3_K HA.out.2 k)
      obtain ⟨x, hx⟩ : ∃ x, x = compK k (x0, x1, x2) := ⟨_, rfl⟩
      obtain ⟨y, hy⟩ : ∃ y, y = compK k (y0, y1, y2) := ⟨_, rfl⟩
      have HD : Hid (difK (x0, x1, x2) (y0, y1, y2) k = x - y) := Lib.hid (by unfold difK; rw [hx, hy])
      rw [← hx] at cx ox
      rw [← hy] at cy oy
      clear hx hy
      obtain ⟨ox1, ox2⟩ := ox
      obtain ⟨oy1, oy2⟩ := oy
      have hw : IntKind.i64.wrap (x - y) = x - y := IntWalk.i64_in _ (by omega)
      have hk0 : (0 : Int) ≤ (k : Int) := by omega
      have hk3 : (k : Int) < 3 := by omega
      go_wp2
      go_quiet (fail)
      have rc := ((rowIs_drewN HOut.out nq).alloc (.cells #[.int .i64 (x - y)] 23)).cell hlt
      have rf := ((rowIs_drewN HOut.out nq).alloc (.cells #[.int .i64 (x - y)] 23)).frozen k
      unfold laidTo at rc
      simp only [Nat.lt_irrefl, if_false] at rc
      by_cases ho : okB (x - y) = true
      · have HO := Lib.hid ho
        clear ho
        go_wp2_with fail
        refine (rright1_yes HO.out (row1 (wr.drewN nq) _ _)).mono ?_
        rintro e w2 ⟨rfl, rfl⟩
        go_wp2
        go_roundw
        case rel => exact ⟨k + 1, by omega, by go_num, bok_step HZ.out (by rw [HD.out]; exact HO.out), ((((rowIs_drewN HOut.out nq).alloc _).set k _).congr (fun i _ => by rw [← HD.out]; exact laid_step _ k i)), ((Go.below_drewN HB.out nq).alloc HB.out.size _).setCell (Nat.le_refl _) _⟩
        case measure => simp [intOf]; omega
      · have ho' : okB (x - y) = false := by simpa using ho
        have HO := Lib.hid ho'
        clear ho ho'
        have K2 := Lib.hid (((K1.out.keep HB.out).drewN nq).alloc (.cells #[.int .i64 (x - y)] 23))
        obtain ⟨z0, z1, z2, g0, g1, g2⟩ := blk3 K2.out
        go_wp2_with fail
        refine (rright1_no HO.out (row1 (wr.drewN nq) _ _)).mono ?_
        rintro e w2 ⟨rfl, rfl⟩
        go_wp2
        have e1 : vsubE x0 x1 x2 y0 y1 y2 = 6 := by
          rw [HE.out, show (6 : Int) = fitE (difK (x0, x1, x2) (y0, y1, y2) k) by rw [HD.out, fit_no HO.out]]
          exact first3_at (e := fun j => fitE (difK (x0, x1, x2) (y0, y1, y2) j)) hlt (fun j hj => (fit_yes (HZ.out j hj)).2) (by show fitE _ ≠ 0; rw [HD.out, fit_no HO.out]; decide)
        have e2 : ∀ v, gate 6 v = 0 := fun v => rfl
        exact bodyPost_ret (v := .tuple #[.agg #[.int .i64 0, .int .i64 0, .int .i64 0], .int .i64 6]) (by simp [results, Try.results10, go_sem, z0, z1, z2]) rfl ⟨by rw [e1, e2, e2, e2], bset3 ((Go.below_drewN (bthen B1.out HB.out) nq).alloc (by have := B1.out.size; have := HB.out.size; simp; omega) _) (by omega)⟩
    · obtain rfl : k = 3 := by omega
      obtain ⟨z0, z1, z2, g0, g1, g2⟩ := blk3 (K1.out.keep HB.out)
      have o0 : wr.cell? ⟨w1.heap.size, 0, none⟩ = some (.int .i64 (x0 - y0)) := HOut.out.cell (i := 0) (by omega)
      have o1 : wr.cell? ⟨w1.heap.size, 1, none⟩ = some (.int .i64 (x1 - y1)) := HOut.out.cell (i := 1) (by omega)
      have o2 : wr.cell? ⟨w1.heap.size, 2, none⟩ = some (.int .i64 (x2 - y2)) := HOut.out.cell (i := 2) (by omega)
      have e1 : vsubE x0 x1 x2 y0 y1 y2 = 0 := by rw [HE.out]; exact first3_none (e := fun j => fitE (difK (x0, x1, x2) (y0, y1, y2) j)) (fun j hj => (fit_yes (HZ.out j hj)).2)
      have v0 : fitV (x0 - y0) = x0 - y0 := (fit_yes (HZ.out 0 (by omega))).1
      have v1 : fitV (x1 - y1) = x1 - y1 := (fit_yes (HZ.out 1 (by omega))).1
      have v2 : fitV (x2 - y2) = x2 - y2 := (fit_yes (HZ.out 2 (by omega))).1
      have HV := Lib.hid (And.intro e1 (And.intro v0 (And.intro v1 v2)))
      clear e1 v0 v1 v2
      go_wp2
      exact bodyPost_ret (v := .tuple #[.agg #[.int .i64 (x0 - y0), .int .i64 (x1 - y1), .int .i64 (x2 - y2)], .int .i64 0]) (by simp [results, Try.results10, go_sem, z0, z1, z2]) rfl ⟨by rw [HV.out.1, HV.out.2.1, HV.out.2.2.1, HV.out.2.2.2, gate0, gate0, gate0], bset3 (bthen B1.out HB.out) (by omega)⟩

theorem rvsub_any (x0 x1 x2 y0 y1 y2 : Int) (w : World) :
    Calls Try.prog 10 #[.agg #[.int .i64 x0, .int .i64 x1, .int .i64 x2], .agg #[.int .i64 y0, .int .i64 y1, .int .i64 y2]] w fun e w' => e = .returned (.tuple #[.agg #[.int .i64 (gate (vsubE x0 x1 x2 y0 y1 y2) (fitV (x0 - y0))), .int .i64 (gate (vsubE x0 x1 x2 y0 y1 y2) (fitV (x1 - y1))), .int .i64 (gate (vsubE x0 x1 x2 y0 y1 y2) (fitV (x2 - y2)))], .int .i64 (vsubE x0 x1 x2 y0 y1 y2)]) ∧ Below w.heap.size w w' := by
  by_cases hr : ok6 x0 x1 x2 y0 y1 y2 = true
  · exact rvsub_yes x0 x1 x2 y0 y1 y2 w hr
  · have hr' : ok6 x0 x1 x2 y0 y1 y2 = false := by simpa using hr
    rw [vsubE_no hr', gate1, gate1, gate1]
    exact rvsub_no x0 x1 x2 y0 y1 y2 w hr'

end Go.Proofs.Ytcmliidkkgkgcaa
