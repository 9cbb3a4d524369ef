/-
  9 texts in one file, each with its own heading.
-/
import Derived.Test.YthhfcedhbfandaaGreatMS05
import Derived.Test.YthhfcedhbfandaaGreatMS02
/-
  What package shape's ends answers.
-/
namespace Go.Proofs.YthhfcedhbfandaaGreat
open Go.RowKit

theorem fitE_six {x : Int} (h : fitE x ≠ 0) : fitE x = 6 := by
  unfold fitE at h ⊢
  by_cases c : okB x = true
  · rw [if_pos c] at h; exact absurd rfl h
  · rw [if_neg c]
theorem fitV_ok (x : Int) : okB (fitV x) = true := by
  unfold fitV
  by_cases c : okB x = true
  · rw [if_pos c]; exact c
  · rw [if_neg c]; decide
theorem mulE_six {x y : Int} (hx : okB x = true) (hy : okB y = true) (h : mulE x y ≠ 0) : mulE x y = 6 := by
  have ho : (okB x && okB y) = true := by rw [hx, hy]; rfl
  rw [(mul_yes ho).2] at h ⊢
  exact fitE_six h
theorem mulV_ok (x y : Int) : okB (mulV x y) = true := by
  by_cases ho : (okB x && okB y) = true
  · rw [(mul_yes ho).1]; exact fitV_ok _
  · rw [(mul_no (by simpa using ho)).1]; decide
theorem first3_ne {e : Nat → Int} (h : first3 (e 0) (e 1) (e 2) ≠ 0) : ∃ k, k < 3 ∧ e k ≠ 0 ∧ first3 (e 0) (e 1) (e 2) = e k := by
  unfold first3 at h ⊢
  by_cases h0 : e 0 = 0
  · rw [if_pos h0] at h ⊢
    by_cases h1 : e 1 = 0
    · rw [if_pos h1] at h ⊢
      exact ⟨2, by omega, h, rfl⟩
    · rw [if_neg h1]; exact ⟨1, by omega, h1, rfl⟩
  · rw [if_neg h0]; exact ⟨0, by omega, h0, rfl⟩
theorem first3_zero {e : Nat → Int} (h : first3 (e 0) (e 1) (e 2) = 0) : ∀ k, k < 3 → e k = 0 := by
  unfold first3 at h
  by_cases h0 : e 0 = 0
  · rw [if_pos h0] at h
    by_cases h1 : e 1 = 0
    · rw [if_pos h1] at h
      intro k hk
      obtain rfl | rfl | rfl : k = 0 ∨ k = 1 ∨ k = 2 := by omega
      · exact h0
      · exact h1
      · exact h
    · rw [if_neg h1] at h; exact absurd h h1
  · rw [if_neg h0] at h; exact absurd h h0
theorem okPlane_at {P : Nat → Int} (h : okPlane P = true) {k : Nat} (hk : k < 4) : okB (P k) = true := by
  unfold okPlane rightB at h
  have h4 : okB (P 0) = true ∧ okB (P 1) = true ∧ okB (P 2) = true ∧ okB (P 3) = true := by simpa using h
  obtain rfl | rfl | rfl | rfl : k = 0 ∨ k = 1 ∨ k = 2 ∨ k = 3 := by omega
  · exact h4.1
  · exact h4.2.1
  · exact h4.2.2.1
  · exact h4.2.2.2
def upB (B : Nat → Int) (j : Nat) : Int := B (3 + j)

theorem lo_bad {P B : Nat → Int} {t : Int} (h : okPlane P = true) (h' : okBox B = true) (he : prE P B ≠ 0) : prE P B = 6 ∧ enE P B t = 6 := by
  obtain ⟨k, hk, hn, hq⟩ := first3_ne (e := prPE P B) he
  refine ⟨hq.trans (mulE_six (okPlane_at h (by omega)) (okBox_at h' (by omega)) hn), enE_bad (k := k) ?_ hk⟩
  unfold enBad
  have : (mulE (P k) (B k) != 0) = true := by simpa using (show mulE (P k) (B k) ≠ 0 from hn)
  rw [this]; rfl
theorem hi_bad {P B : Nat → Int} {t : Int} (h : okPlane P = true) (h' : okBox B = true) (he : prE P (upB B) ≠ 0) : prE P (upB B) = 6 ∧ enE P B t = 6 := by
  obtain ⟨k, hk, hn, hq⟩ := first3_ne (e := prPE P (upB B)) he
  refine ⟨hq.trans (mulE_six (okPlane_at h (by omega)) (okBox_at h' (by omega)) hn), enE_bad (k := k) ?_ hk⟩
  unfold enBad
  have : (mulE (P k) (B (3 + k)) != 0) = true := by simpa using (show mulE (P k) (B (3 + k)) ≠ 0 from hn)
  rw [this, Bool.or_true]
theorem bet_less (a b : Int) : bet lessB a b = min a b := by
  unfold bet lessB
  by_cases c : b < a
  · rw [if_pos (by simpa using c)]; omega
  · rw [if_neg (by simpa using c)]; omega
theorem bet_more (a b : Int) : bet moreB a b = max a b := by
  unfold bet moreB
  by_cases c : b > a
  · rw [if_pos (by simpa using c)]; omega
  · rw [if_neg (by simpa using c)]; omega
theorem add_turn (x y z t : Int) : addV [x, y, z, t] = addV [t, x, y, z] ∧ addE [x, y, z, t] = addE [t, x, y, z] := by
  have hs : [x, y, z, t].sum = [t, x, y, z].sum := by simp only [List.sum_cons, List.sum_nil]; omega
  have hr : addOk [x, y, z, t] = addOk [t, x, y, z] := by
    unfold addOk rightB
    simp only [List.all_cons, List.all_nil, List.length_cons, List.length_nil]
    cases okB x <;> cases okB y <;> cases okB z <;> cases okB t <;> rfl
  unfold addV addE
  rw [hs, hr]
  exact ⟨rfl, rfl⟩
theorem add_six {x y z t : Int} (hx : okB x = true) (hy : okB y = true) (hz : okB z = true) (ht : okB t = true) (h : addE [x, y, z, t] ≠ 0) : addE [x, y, z, t] = 6 := by
  have ho : addOk [x, y, z, t] = true := addOk_yes rfl (by simp) (by unfold rightB; simp [hx, hy, hz, ht])
  rw [addE_yes ho] at h ⊢
  exact fitE_six h
theorem okB_min {x y : Int} (hx : okB x = true) (hy : okB y = true) : okB (min x y) = true := by
  obtain ⟨a1, a2⟩ := okB_iff.1 hx
  obtain ⟨b1, b2⟩ := okB_iff.1 hy
  exact okB_yes (by omega) (by omega)
theorem okB_max {x y : Int} (hx : okB x = true) (hy : okB y = true) : okB (max x y) = true := by
  obtain ⟨a1, a2⟩ := okB_iff.1 hx
  obtain ⟨b1, b2⟩ := okB_iff.1 hy
  exact okB_yes (by omega) (by omega)
theorem en_good {P B : Nat → Int} {t : Int} (ht : okB t = true) (h1 : prE P B = 0) (h2 : prE P (upB B) = 0) :
    ∃ l0 l1 l2 g0 g1 g2, pk lessB [(prV P B 0, prV P B 1, prV P B 2), (prV P (upB B) 0, prV P (upB B) 1, prV P (upB B) 2)] = (l0, l1, l2) ∧ pk moreB [(prV P B 0, prV P B 1, prV P B 2), (prV P (upB B) 0, prV P (upB B) 1, prV P (upB B) 2)] = (g0, g1, g2) ∧
      (addE [l0, l1, l2, t] ≠ 0 → addE [l0, l1, l2, t] = 6 ∧ enE P B t = 6) ∧ (addE [g0, g1, g2, t] ≠ 0 → addE [g0, g1, g2, t] = 6 ∧ enE P B t = 6) ∧
      (addE [l0, l1, l2, t] = 0 → addE [g0, g1, g2, t] = 0 → enE P B t = 0 ∧ enLo P B t = addV [l0, l1, l2, t] ∧ enHi P B t = addV [g0, g1, g2, t]) := by
  have hb : enBad P B 0 = false ∧ enBad P B 1 = false ∧ enBad P B 2 = false := by
    have a := first3_zero (e := prPE P B) h1
    have b := first3_zero (e := prPE P (upB B)) h2
    have c : ∀ k, k < 3 → enBad P B k = false := fun k hk => by
      unfold enBad
      rw [show mulE (P k) (B k) = 0 from a k hk, show mulE (P k) (B (3 + k)) = 0 from b k hk]; rfl
    exact ⟨c 0 (by omega), c 1 (by omega), c 2 (by omega)⟩
  have v1 : ∀ k, prV P B k = enX P B k := fun k => by unfold prV; rw [h1]; rfl
  have v2 : ∀ k, prV P (upB B) k = enY P B k := fun k => by unfold prV; rw [h2]; rfl
  have el : enLoL P B t = [t, min (enX P B 0) (enY P B 0), min (enX P B 1) (enY P B 1), min (enX P B 2) (enY P B 2)] := rfl
  have eh : enHiL P B t = [t, max (enX P B 0) (enY P B 0), max (enX P B 1) (enY P B 1), max (enX P B 2) (enY P B 2)] := rfl
  have ee : enE P B t = if (addE (enLoL P B t) != 0) || (addE (enHiL P B t) != 0) then 6 else 0 := by unfold enE; rw [hb.1, hb.2.1, hb.2.2]; rfl
  have kx : ∀ k, okB (enX P B k) = true := fun k => mulV_ok _ _
  have ky : ∀ k, okB (enY P B k) = true := fun k => mulV_ok _ _
  have tl := add_turn (min (enX P B 0) (enY P B 0)) (min (enX P B 1) (enY P B 1)) (min (enX P B 2) (enY P B 2)) t
  have th := add_turn (max (enX P B 0) (enY P B 0)) (max (enX P B 1) (enY P B 1)) (max (enX P B 2) (enY P B 2)) t
  rw [← el] at tl
  rw [← eh] at th
  refine ⟨min (enX P B 0) (enY P B 0), min (enX P B 1) (enY P B 1), min (enX P B 2) (enY P B 2), max (enX P B 0) (enY P B 0), max (enX P B 1) (enY P B 1), max (enX P B 2) (enY P B 2), ?_, ?_, ?_, ?_, ?_⟩
  · rw [v1, v1, v1, v2, v2, v2, ← bet_less, ← bet_less, ← bet_less]; rfl
  · rw [v1, v1, v1, v2, v2, v2, ← bet_more, ← bet_more, ← bet_more]; rfl
  · intro h
    refine ⟨add_six (okB_min (kx 0) (ky 0)) (okB_min (kx 1) (ky 1)) (okB_min (kx 2) (ky 2)) ht h, ?_⟩
    rw [tl.2] at h
    rw [ee, show (addE (enLoL P B t) != 0) = true by simpa using h]; rfl
  · intro h
    refine ⟨add_six (okB_max (kx 0) (ky 0)) (okB_max (kx 1) (ky 1)) (okB_max (kx 2) (ky 2)) ht h, ?_⟩
    rw [th.2] at h
    rw [ee, show (addE (enHiL P B t) != 0) = true by simpa using h, Bool.or_true]; rfl
  · intro a b
    have e0 : enE P B t = 0 := by
      rw [tl.2] at a
      rw [th.2] at b
      rw [ee, a, b]; rfl
    refine ⟨e0, ?_, ?_⟩
    · unfold enLo; rw [e0, tl.1]; rfl
    · unfold enHi; rw [e0, th.1]; rfl

theorem pick_xyz_l (a : Option Addr) (vs : List V3) (w : World) (p0 p1 p2 : Int) (hp : pk lessB vs = (p0, p1, p2)) (row : VRow w a 2 vs) :
    Calls Tryz.prog 278 #[.slice a 2 2] w fun e w' => e = .returned (.agg #[.int .i64 p0, .int .i64 p1, .int .i64 p2]) ∧ Below w.heap.size w w' :=
  (least_any a 2 2 vs w (by omega) (by omega) row).mono fun _ _ ⟨he, hw⟩ => ⟨by rw [he, hp]; rfl, hw⟩
theorem pick_xyz_g (a : Option Addr) (vs : List V3) (w : World) (p0 p1 p2 : Int) (hp : pk moreB vs = (p0, p1, p2)) (row : VRow w a 2 vs) :
    Calls Tryz.prog 292 #[.slice a 2 2] w fun e w' => e = .returned (.agg #[.int .i64 p0, .int .i64 p1, .int .i64 p2]) ∧ Below w.heap.size w w' :=
  (greatest_any a 2 2 vs w (by omega) (by omega) row).mono fun _ _ ⟨he, hw⟩ => ⟨by rw [he, hp]; rfl, hw⟩

set_option maxHeartbeats 2000000 in
theorem ends_any (P B : Nat → Int) (w : World) (h : okPlane P = true) (h' : okBox B = true) :
    Calls Tryz.prog 263 #[.agg #[.int .i64 (P 0), .int .i64 (P 1), .int .i64 (P 2), .int .i64 (P 3)], .agg #[.int .i64 (B 0), .int .i64 (B 1), .int .i64 (B 2), .int .i64 (B 3), .int .i64 (B 4), .int .i64 (B 5)]] w fun e w' => e = .returned (.tuple #[.int .i64 (enLo P B (P 3)), .int .i64 (enHi P B (P 3)), .int .i64 (enE P B (P 3))]) ∧ Below w.heap.size w w' := by
  have HO := Lib.hid (And.intro h h')
  clear h h'
  obtain ⟨a0, a1, a2, y1, hc1⟩ : ∃ a0 a1 a2 y, prV P B 0 = a0 ∧ prV P B 1 = a1 ∧ prV P B 2 = a2 ∧ prE P B = y := ⟨_, _, _, _, rfl, rfl, rfl, rfl⟩
  obtain ⟨b0, b1, b2, y2, hc2⟩ : ∃ a0 a1 a2 y, prV P (upB B) 0 = a0 ∧ prV P (upB B) 1 = a1 ∧ prV P (upB B) 2 = a2 ∧ prE P (upB B) = y := ⟨_, _, _, _, rfl, rfl, rfl, rfl⟩
  have H1 : Hid (∀ w', Calls Tryz.prog 290 #[.agg #[.int .i64 (P 0), .int .i64 (P 1), .int .i64 (P 2)], .agg #[.int .i64 (B 0), .int .i64 (B 1), .int .i64 (B 2)]] w' fun e w'' => e = .returned (.tuple #[.agg #[.int .i64 a0, .int .i64 a1, .int .i64 a2], .int .i64 y1]) ∧ Below w'.heap.size w' w'') :=
    Lib.hid (fun w' => (products_any P B w').mono fun _ _ ⟨he, hw⟩ => ⟨by rw [he, hc1.1, hc1.2.1, hc1.2.2.1, hc1.2.2.2], hw⟩)
  have H2 : Hid (∀ w', Calls Tryz.prog 290 #[.agg #[.int .i64 (P 0), .int .i64 (P 1), .int .i64 (P 2)], .agg #[.int .i64 (B 3), .int .i64 (B 4), .int .i64 (B 5)]] w' fun e w'' => e = .returned (.tuple #[.agg #[.int .i64 b0, .int .i64 b1, .int .i64 b2], .int .i64 y2]) ∧ Below w'.heap.size w' w'') :=
    Lib.hid (fun w' => (products_any P (upB B) w').mono fun _ _ ⟨he, hw⟩ => ⟨by rw [he, hc2.1, hc2.2.1, hc2.2.2.1, hc2.2.2.2], hw⟩)
  have HC := Lib.hid (And.intro hc1 hc2)
  clear hc1 hc2
  by_cases he1 : y1 = 0
  · have hy1 : (y1 != 0) = false := by rw [he1]; rfl
    by_cases he2 : y2 = 0
    · have hy2 : (y2 != 0) = false := by rw [he2]; rfl
      obtain ⟨l0, l1, l2, g0, g1, g2, hl, hg, hx1, hx2, hx3⟩ := en_good (P := P) (B := B) (okPlane_at HO.out.1 (k := 3) (by omega)) (by rw [HC.out.1.2.2.2]; exact he1) (by rw [HC.out.2.2.2.2]; exact he2)
      rw [HC.out.1.1, HC.out.1.2.1, HC.out.1.2.2.1, HC.out.2.1, HC.out.2.2.1, HC.out.2.2.2.1] at hl hg
      have HL := Lib.hid hl
      have HG := Lib.hid hg
      obtain ⟨u, f1, hu, hf1⟩ : ∃ u f, u = addV [l0, l1, l2, P 3] ∧ f = addE [l0, l1, l2, P 3] := ⟨_, _, rfl, rfl⟩
      obtain ⟨v, f2, hv, hf2⟩ : ∃ u f, u = addV [g0, g1, g2, P 3] ∧ f = addE [g0, g1, g2, P 3] := ⟨_, _, rfl, rfl⟩
      rw [← hf1] at hx1 hx3
      rw [← hf2] at hx2 hx3
      rw [← hu, ← hv] at hx3
      have T1 : Hid (∀ w', Calls Tryz.prog 291 #[.agg #[.int .i64 l0, .int .i64 l1, .int .i64 l2], .int .i64 (P 3)] w' fun e w'' => e = .returned (.tuple #[.int .i64 u, .int .i64 f1]) ∧ Below w'.heap.size w' w'') :=
        Lib.hid (fun w' => (total_any l0 l1 l2 (P 3) w').mono fun _ _ ⟨he, hw⟩ => ⟨by rw [he, hu, hf1], hw⟩)
      have T2 : Hid (∀ w', Calls Tryz.prog 291 #[.agg #[.int .i64 g0, .int .i64 g1, .int .i64 g2], .int .i64 (P 3)] w' fun e w'' => e = .returned (.tuple #[.int .i64 v, .int .i64 f2]) ∧ Below w'.heap.size w' w'') :=
        Lib.hid (fun w' => (total_any g0 g1 g2 (P 3) w').mono fun _ _ ⟨he, hw⟩ => ⟨by rw [he, hv, hf2], hw⟩)
      have HX := Lib.hid (And.intro hx1 (And.intro hx2 hx3))
      clear hl hg hx1 hx2 hx3 hu hf1 hv hf2 he1 he2
      go_enter Tryz.func263, Tryz.ntmps263
      go_wp2_with fail
      refine (H1.out _).mono ?_
      rintro e w1 ⟨rfl, b1⟩
      have KP := Lib.hid (((Blk.new w 348 _).alloc _).keep b1)
      have KB := Lib.hid (blkAt ((Blk.new (w.alloc _) 50 _).keep b1) (g' := w.heap.size + 1) (by simp))
      have B1 := Lib.hid (bthen (balloc (alloc_below _ _) _) b1)
      clear b1
      obtain ⟨d0, d1, d2, d3, d4, d5, _⟩ := blk6 KB.out
      obtain ⟨p0, p1, p2, p3⟩ := blk4 KP.out
      have z := KB.out.lt
      have z' := KP.out.lt
      go_wp2_with fail
      refine (H2.out _).mono ?_
      rintro e w2 ⟨rfl, b2⟩
      replace KP := Lib.hid ((KP.out.alloc _).keep b2)
      have KX := Lib.hid ((Blk.new w1 48 _).keep b2)
      replace B1 := Lib.hid (bthen (balloc B1.out _) b2)
      clear b2 d0 d1 d2 d3 d4 d5 p0 p1 p2 p3 KB z z'
      go_wp2
      refine fin (fun W => Blk W w.heap.size 348 #[.int .i64 (P 0), .int .i64 (P 1), .int .i64 (P 2), .int .i64 (P 3)] ∧ Blk W w1.heap.size 48 #[.int .i64 a0, .int .i64 a1, .int .i64 a2] ∧ Blk W w2.heap.size 48 #[.int .i64 b0, .int .i64 b1, .int .i64 b2] ∧ Below w.heap.size w W) ⟨KP.out.alloc _, KX.out.alloc _, Blk.new w2 _ _, balloc B1.out _⟩ ?_
      clear KP KX B1
      rintro W ⟨kp, kx, ky, hb⟩
      have KP := Lib.hid kp
      have KX := Lib.hid kx
      have KY := Lib.hid ky
      have HB := Lib.hid hb
      clear kp kx ky hb
      have HS : Hid (∀ w', Below W.heap.size W w' → (w'.cell? ⟨w1.heap.size, 0, none⟩ = some (.int .i64 a0) ∧ w'.cell? ⟨w1.heap.size, 1, none⟩ = some (.int .i64 a1) ∧ w'.cell? ⟨w1.heap.size, 2, none⟩ = some (.int .i64 a2) ∧ w'.cell? ⟨w2.heap.size, 0, none⟩ = some (.int .i64 b0) ∧ w'.cell? ⟨w2.heap.size, 1, none⟩ = some (.int .i64 b1) ∧ w'.cell? ⟨w2.heap.size, 2, none⟩ = some (.int .i64 b2) ∧ w'.cell? ⟨w.heap.size, 3, none⟩ = some (.int .i64 (P 3)))) :=
        Lib.hid (fun w' hb => ⟨(KX.out.keep hb).cell 0, (KX.out.keep hb).cell 1, (KX.out.keep hb).cell 2, (KY.out.keep hb).cell 0, (KY.out.keep hb).cell 1, (KY.out.keep hb).cell 2, (KP.out.keep hb).cell 3⟩)
      go_region_held3 (fun w' => w'.cell? ⟨w1.heap.size, 0, none⟩ = some (.int .i64 a0) ∧ w'.cell? ⟨w1.heap.size, 1, none⟩ = some (.int .i64 a1) ∧ w'.cell? ⟨w1.heap.size, 2, none⟩ = some (.int .i64 a2) ∧ w'.cell? ⟨w2.heap.size, 0, none⟩ = some (.int .i64 b0) ∧ w'.cell? ⟨w2.heap.size, 1, none⟩ = some (.int .i64 b1) ∧ w'.cell? ⟨w2.heap.size, 2, none⟩ = some (.int .i64 b2) ∧ w'.cell? ⟨w.heap.size, 3, none⟩ = some (.int .i64 (P 3)))
        (first | exact HS.out _ (bthen (bthen (alloc_below _ _) (bdrew c1)) c2) | exact HS.out _ (bthen (alloc_below _ _) (bdrew c1)) | exact HS.out _ (bdrewn (alloc_below _ _)) | exact HS.out _ (bdrewn (Below.refl _ _)))
        (first | (go_at_call 291; refine (T1.out _).mono ?_; rintro e w4 ⟨rfl, c2⟩) | (go_at_call 278; refine (pick_xyz_l _ _ _ l0 l1 l2 HL.out (vrow2 (Blk.drew (Blk.new W _ _)))).mono ?_; rintro e w3 ⟨rfl, c1⟩))
      have B2 := Lib.hid (bthen (bthen (alloc_below _ _) (bdrew c1)) c2)
      clear c1 c2 HS
      replace KP := Lib.hid (KP.out.keep B2.out)
      replace KX := Lib.hid (KX.out.keep B2.out)
      replace KY := Lib.hid (KY.out.keep B2.out)
      replace HB := Lib.hid (bthen HB.out B2.out)
      clear B2
      by_cases hf1 : f1 = 0
      · have hg1 : (f1 != 0) = false := by rw [hf1]; rfl
        have HF1 := Lib.hid hf1
        clear hf1
        go_wp2
        have HS : Hid (∀ w', Below w4.heap.size w4 w' → (w'.cell? ⟨w1.heap.size, 0, none⟩ = some (.int .i64 a0) ∧ w'.cell? ⟨w1.heap.size, 1, none⟩ = some (.int .i64 a1) ∧ w'.cell? ⟨w1.heap.size, 2, none⟩ = some (.int .i64 a2) ∧ w'.cell? ⟨w2.heap.size, 0, none⟩ = some (.int .i64 b0) ∧ w'.cell? ⟨w2.heap.size, 1, none⟩ = some (.int .i64 b1) ∧ w'.cell? ⟨w2.heap.size, 2, none⟩ = some (.int .i64 b2) ∧ w'.cell? ⟨w.heap.size, 3, none⟩ = some (.int .i64 (P 3)))) :=
          Lib.hid (fun w' hb => ⟨(KX.out.keep hb).cell 0, (KX.out.keep hb).cell 1, (KX.out.keep hb).cell 2, (KY.out.keep hb).cell 0, (KY.out.keep hb).cell 1, (KY.out.keep hb).cell 2, (KP.out.keep hb).cell 3⟩)
        go_region_held3 (fun w' => w'.cell? ⟨w1.heap.size, 0, none⟩ = some (.int .i64 a0) ∧ w'.cell? ⟨w1.heap.size, 1, none⟩ = some (.int .i64 a1) ∧ w'.cell? ⟨w1.heap.size, 2, none⟩ = some (.int .i64 a2) ∧ w'.cell? ⟨w2.heap.size, 0, none⟩ = some (.int .i64 b0) ∧ w'.cell? ⟨w2.heap.size, 1, none⟩ = some (.int .i64 b1) ∧ w'.cell? ⟨w2.heap.size, 2, none⟩ = some (.int .i64 b2) ∧ w'.cell? ⟨w.heap.size, 3, none⟩ = some (.int .i64 (P 3)))
          (first | exact HS.out _ (bthen (bthen (alloc_below _ _) (bdrew c1)) c2) | exact HS.out _ (bthen (alloc_below _ _) (bdrew c1)) | exact HS.out _ (bdrewn (alloc_below _ _)) | exact HS.out _ (bdrewn (Below.refl _ _)))
          (first | (go_at_call 291; refine (T2.out _).mono ?_; rintro e w6 ⟨rfl, c2⟩) | (go_at_call 292; refine (pick_xyz_g _ _ _ g0 g1 g2 HG.out (vrow2 (Blk.drew (Blk.new w4 _ _)))).mono ?_; rintro e w5 ⟨rfl, c1⟩))
        have HB2 := Lib.hid (bthen HB.out (bthen (bthen (alloc_below _ _) (bdrew c1)) c2))
        clear c1 c2 HS
        by_cases hf2 : f2 = 0
        · have hg2 : (f2 != 0) = false := by rw [hf2]; rfl
          have HF2 := Lib.hid hf2
          clear hf2
          go_wp2
          have q := HX.out.2.2 HF1.out HF2.out
          exact bodyPost_ret (v := .tuple #[.int .i64 u, .int .i64 v, .int .i64 0]) (by simp [results, Tryz.results263, go_sem]) rfl ⟨by rw [q.1, q.2.1, q.2.2], HB2.out⟩
        · have hg2 : (f2 != 0) = true := by simpa using hf2
          have q := Lib.hid (HX.out.2.1 hf2)
          clear hf2
          go_wp2
          exact bodyPost_ret (v := .tuple #[.int .i64 0, .int .i64 0, .int .i64 f2]) (by simp [results, Tryz.results263, go_sem]) rfl ⟨by rw [q.out.1, q.out.2, (en_no q.out.2).1, (en_no q.out.2).2], HB2.out⟩
      · have hg1 : (f1 != 0) = true := by simpa using hf1
        have q := Lib.hid (HX.out.1 hf1)
        clear hf1
        go_wp2
        exact bodyPost_ret (v := .tuple #[.int .i64 0, .int .i64 0, .int .i64 f1]) (by simp [results, Tryz.results263, go_sem]) rfl ⟨by rw [q.out.1, q.out.2, (en_no q.out.2).1, (en_no q.out.2).2], HB.out⟩
    · have hy2 : (y2 != 0) = true := by simpa using he2
      have q := Lib.hid (hi_bad (t := P 3) HO.out.1 HO.out.2 (by rw [HC.out.2.2.2.2]; exact he2))
      rw [HC.out.2.2.2.2] at q
      clear he1 he2
      go_enter Tryz.func263, Tryz.ntmps263
      go_wp2_with fail
      refine (H1.out _).mono ?_
      rintro e w1 ⟨rfl, b1⟩
      have KP := Lib.hid (((Blk.new w 348 _).alloc _).keep b1)
      have KB := Lib.hid (blkAt ((Blk.new (w.alloc _) 50 _).keep b1) (g' := w.heap.size + 1) (by simp))
      have B1 := Lib.hid (bthen (balloc (alloc_below _ _) _) b1)
      clear b1
      obtain ⟨d0, d1, d2, d3, d4, d5, _⟩ := blk6 KB.out
      obtain ⟨p0, p1, p2, p3⟩ := blk4 KP.out
      have z := KB.out.lt
      have z' := KP.out.lt
      go_wp2_with fail
      refine (H2.out _).mono ?_
      rintro e w2 ⟨rfl, b2⟩
      replace B1 := Lib.hid (bthen (balloc B1.out _) b2)
      clear b2 d0 d1 d2 d3 d4 d5 p0 p1 p2 p3 KB KP z z'
      go_wp2
      exact bodyPost_ret (v := .tuple #[.int .i64 0, .int .i64 0, .int .i64 y2]) (by simp [results, Tryz.results263, go_sem]) rfl ⟨by rw [q.out.1, q.out.2, (en_no q.out.2).1, (en_no q.out.2).2], balloc B1.out _⟩
  · have hy1 : (y1 != 0) = true := by simpa using he1
    have q := Lib.hid (lo_bad (t := P 3) HO.out.1 HO.out.2 (by rw [HC.out.1.2.2.2]; exact he1))
    rw [HC.out.1.2.2.2] at q
    clear he1
    go_enter Tryz.func263, Tryz.ntmps263
    go_wp2_with fail
    refine (H1.out _).mono ?_
    rintro e w1 ⟨rfl, b1⟩
    have B1 := Lib.hid (bthen (balloc (alloc_below _ _) _) b1)
    clear b1
    go_wp2
    exact bodyPost_ret (v := .tuple #[.int .i64 0, .int .i64 0, .int .i64 y1]) (by simp [results, Tryz.results263, go_sem]) rfl ⟨by rw [q.out.1, q.out.2, (en_no q.out.2).1, (en_no q.out.2).2], balloc B1.out _⟩

theorem okBox_as (B : Nat → Int) : okBox B = (rightV [(B 0, B 1, B 2), (B 3, B 4, B 5)] && (bet lessB (B 0) (B 3) == B 0 && bet lessB (B 1) (B 4) == B 1 && bet lessB (B 2) (B 5) == B 2)) := by
  have e : ∀ a b : Int, (bet lessB a b == a) = decide (a ≤ b) := fun a b => by
    rw [bet_less]
    by_cases c : a ≤ b
    · rw [show min a b = a by omega, decide_eq_true c]; simp
    · rw [decide_eq_false c]; simp; omega
  rw [e, e, e]
  unfold okBox boxTo boxTo boxTo boxTo
  cases rightV [(B 0, B 1, B 2), (B 3, B 4, B 5)] <;> simp [Bool.and_assoc]
theorem vright_b {a : Option Addr} {len cap : Nat} {vs : List V3} {w : World} {b : Bool} (hr : rightV vs = b) (row : VRow w a len vs) :
    Calls Tryz.prog 277 #[.slice a len cap] w fun e w' => e = .returned (.bool b) ∧ Below w.heap.size w w' :=
  (vright_any a len cap vs w row).mono fun _ _ ⟨he, hw⟩ => ⟨by rw [he, hr], hw⟩
set_option maxHeartbeats 2000000 in
theorem shright_any (a : Option Addr) (len cap : Nat) (Bs : List (Nat → Int)) (w : World) (row : BRow w a len Bs) :
    Calls Tryz.prog 238 #[.slice a len cap] w fun e w' => e = .returned (.bool (rightBx Bs)) ∧ Below w.heap.size w w' := by
  have HL := Lib.hid row.1
  have hbig := row.2.1
  have HRow := Lib.hid row
  clear row
  go_enter Tryz.func238, Tryz.ntmps238
  go_wp2
  go_loopw [4, 7] (fun _ i wr => ∃ k : Nat, k ≤ len ∧ i = .int .i64 k ∧ rightBx (Bs.take k) = true ∧ Below w.heap.size w wr) (fun _ i _ => len - (intOf i).toNat)
  case atStart => exact ⟨0, Nat.zero_le _, rfl, rfl, Below.refl _ _⟩
  case round =>
    obtain ⟨k, hk, rfl, hr, hb⟩ := hrel
    have HR := Lib.hid hr
    have HB := Lib.hid hb
    clear hr hb
    by_cases hlt : k < len
    · obtain ⟨b, off, B, rfl, hv, m0, m1, m2, m3, m4, m5⟩ := (brow_keep HRow.out HB.out).at_ hlt
      have HV := Lib.hid hv
      clear hv
      have HS : Hid (∀ w', Below (wr.alloc (.cells #[.int .i64 (B 0), .int .i64 (B 1), .int .i64 (B 2), .int .i64 (B 3), .int .i64 (B 4), .int .i64 (B 5)] 50)).heap.size (wr.alloc (.cells #[.int .i64 (B 0), .int .i64 (B 1), .int .i64 (B 2), .int .i64 (B 3), .int .i64 (B 4), .int .i64 (B 5)] 50)) w' → (w'.cell? ⟨wr.heap.size, 0, none⟩ = some (.int .i64 (B 0)) ∧ w'.cell? ⟨wr.heap.size, 1, none⟩ = some (.int .i64 (B 1)) ∧ w'.cell? ⟨wr.heap.size, 2, none⟩ = some (.int .i64 (B 2)) ∧ w'.cell? ⟨wr.heap.size, 3, none⟩ = some (.int .i64 (B 3)) ∧ w'.cell? ⟨wr.heap.size, 4, none⟩ = some (.int .i64 (B 4)) ∧ w'.cell? ⟨wr.heap.size, 5, none⟩ = some (.int .i64 (B 5)))) :=
        Lib.hid (fun w' hb => ⟨((Blk.new wr _ _).keep hb).cell 0, ((Blk.new wr _ _).keep hb).cell 1, ((Blk.new wr _ _).keep hb).cell 2, ((Blk.new wr _ _).keep hb).cell 3, ((Blk.new wr _ _).keep hb).cell 4, ((Blk.new wr _ _).keep hb).cell 5⟩)
      obtain ⟨p0, p1, p2, hp⟩ : ∃ p0 p1 p2, pk lessB [(B 0, B 1, B 2), (B 3, B 4, B 5)] = (p0, p1, p2) := ⟨_, _, _, rfl⟩
      have hok := okBox_as B
      obtain ⟨q0, hq⟩ : bet lessB (B 0) (B 3) = p0 ∧ bet lessB (B 1) (B 4) = p1 ∧ bet lessB (B 2) (B 5) = p2 := by
        have h3 : (bet lessB (B 0) (B 3), bet lessB (B 1) (B 4), bet lessB (B 2) (B 5)) = (p0, p1, p2) := hp
        simpa using h3
      rw [q0, hq.1, hq.2] at hok
      have HP := Lib.hid hp
      have HOk := Lib.hid hok
      clear hp hok q0 hq
      have heq := eqVec
      by_cases hr2 : rightV [(B 0, B 1, B 2), (B 3, B 4, B 5)] = true
      · have HR2 := Lib.hid hr2
        clear hr2
        by_cases hmn : (p0 == B 0 && p1 == B 1 && p2 == B 2) = true
        · go_wp2
          go_region_held3 (fun w' => w'.cell? ⟨wr.heap.size, 0, none⟩ = some (.int .i64 (B 0)) ∧ w'.cell? ⟨wr.heap.size, 1, none⟩ = some (.int .i64 (B 1)) ∧ w'.cell? ⟨wr.heap.size, 2, none⟩ = some (.int .i64 (B 2)) ∧ w'.cell? ⟨wr.heap.size, 3, none⟩ = some (.int .i64 (B 3)) ∧ w'.cell? ⟨wr.heap.size, 4, none⟩ = some (.int .i64 (B 4)) ∧ w'.cell? ⟨wr.heap.size, 5, none⟩ = some (.int .i64 (B 5)))
            (first | exact HS.out _ (bthen (balloc (bthen (alloc_below _ _) (bdrew c1)) _) c2) | exact HS.out _ (balloc (bthen (alloc_below _ _) (bdrew c1)) _) | exact HS.out _ (bthen (alloc_below _ _) (bdrew c1)) | exact HS.out _ (bdrewn (alloc_below _ _)) | exact HS.out _ (bdrewn (Below.refl _ _)))
            (first | (go_at_call 278; refine (pick_xyz_l _ _ _ p0 p1 p2 HP.out (vrow2 (Blk.new _ _ _))).mono ?_; rintro e w2 ⟨rfl, c2⟩) | (go_at_call 277; refine (vright_b HR2.out (vrow2 (Blk.drew (blkAt (Blk.new _ _ _) (by simp))))).mono ?_; rintro e w1 ⟨rfl, c1⟩))
          have B2 := Lib.hid (bthen (balloc (bthen (balloc (balloc HB.out _) _) (bdrew c1)) _) c2)
          have HG := Lib.hid (show okBox B = true by rw [HOk.out, HR2.out, hmn]; rfl)
          clear c1 c2 hmn m0 m1 m2 m3 m4 m5
          go_wp2
          go_roundw
          case rel => exact ⟨k + 1, by omega, by go_num, rightBx_succ HV.out HR.out HG.out, B2.out⟩
          case measure => simp [intOf] <;> omega
        · have hmn' : (p0 == B 0 && p1 == B 1 && p2 == B 2) = false := by simpa using hmn
          clear hmn
          go_wp2
          go_region_held3 (fun w' => w'.cell? ⟨wr.heap.size, 0, none⟩ = some (.int .i64 (B 0)) ∧ w'.cell? ⟨wr.heap.size, 1, none⟩ = some (.int .i64 (B 1)) ∧ w'.cell? ⟨wr.heap.size, 2, none⟩ = some (.int .i64 (B 2)) ∧ w'.cell? ⟨wr.heap.size, 3, none⟩ = some (.int .i64 (B 3)) ∧ w'.cell? ⟨wr.heap.size, 4, none⟩ = some (.int .i64 (B 4)) ∧ w'.cell? ⟨wr.heap.size, 5, none⟩ = some (.int .i64 (B 5)))
            (first | exact HS.out _ (bthen (balloc (bthen (alloc_below _ _) (bdrew c1)) _) c2) | exact HS.out _ (balloc (bthen (alloc_below _ _) (bdrew c1)) _) | exact HS.out _ (bthen (alloc_below _ _) (bdrew c1)) | exact HS.out _ (bdrewn (alloc_below _ _)) | exact HS.out _ (bdrewn (Below.refl _ _)))
            (first | (go_at_call 278; refine (pick_xyz_l _ _ _ p0 p1 p2 HP.out (vrow2 (Blk.new _ _ _))).mono ?_; rintro e w2 ⟨rfl, c2⟩) | (go_at_call 277; refine (vright_b HR2.out (vrow2 (Blk.drew (blkAt (Blk.new _ _ _) (by simp))))).mono ?_; rintro e w1 ⟨rfl, c1⟩))
          have B2 := Lib.hid (bthen (balloc (bthen (balloc (balloc HB.out _) _) (bdrew c1)) _) c2)
          have HG := Lib.hid (show okBox B = false by rw [HOk.out, HR2.out, hmn']; rfl)
          clear c1 c2 hmn' m0 m1 m2 m3 m4 m5
          go_wp2
          go_ret
          exact ⟨by rw [rightBx_bad HV.out HG.out]; rfl, B2.out⟩
      · have hr3 : rightV [(B 0, B 1, B 2), (B 3, B 4, B 5)] = false := by simpa using hr2
        have HR2 := Lib.hid hr3
        clear hr2 hr3
        go_wp2
        refine wp_region_held_drew (S := (fun w' => w'.cell? ⟨wr.heap.size, 0, none⟩ = some (.int .i64 (B 0)) ∧ w'.cell? ⟨wr.heap.size, 1, none⟩ = some (.int .i64 (B 1)) ∧ w'.cell? ⟨wr.heap.size, 2, none⟩ = some (.int .i64 (B 2)) ∧ w'.cell? ⟨wr.heap.size, 3, none⟩ = some (.int .i64 (B 3)) ∧ w'.cell? ⟨wr.heap.size, 4, none⟩ = some (.int .i64 (B 4)) ∧ w'.cell? ⟨wr.heap.size, 5, none⟩ = some (.int .i64 (B 5)))) (by kernel_rfl) (HS.out _ (bdrewn (Below.refl _ _))) (fun hHeld => ?_)
        refine wpAnyH_take (i := 0) (v := ?_) rfl (by kernel_rfl) (by kernel_rfl) (by kernel_rfl) (fun _ _ _ h => h) (Or.inl ⟨by rfl, ?_⟩) hHeld ?_
        rotate_left
        · rintro w ⟨s0, s1, s2, s3, s4, s5⟩
          go_simp
          with_reducible rfl
        simp only [Act.put, List.getElem_toArray, List.getElem_cons_zero, List.setIfInBounds_toArray, List.set_cons_zero, List.set_cons_succ]
        refine wpAnyH_take (i := 1) (v := ?_) rfl (by kernel_rfl) (by kernel_rfl) (by kernel_rfl) (fun _ _ _ h => h) (Or.inl ⟨by rfl, ?_⟩) hHeld ?_
        rotate_left
        · rintro w ⟨s0, s1, s2, s3, s4, s5⟩
          go_simp
          with_reducible rfl
        simp only [Act.put, List.getElem_toArray, List.getElem_cons_zero, List.getElem_cons_succ, List.setIfInBounds_toArray, List.set_cons_zero, List.set_cons_succ]
        refine wpAnyH_take (i := 2) (v := ?_) rfl (by kernel_rfl) (by kernel_rfl) (by kernel_rfl) (fun _ _ _ h => h) (Or.inl ⟨by rfl, ?_⟩) hHeld ?_
        rotate_left
        · rintro w ⟨s0, s1, s2, s3, s4, s5⟩
          go_simp
          with_reducible rfl
        simp only [Act.put, List.getElem_toArray, List.getElem_cons_zero, List.getElem_cons_succ, List.setIfInBounds_toArray, List.set_cons_zero, List.set_cons_succ]
        refine wpAnyH_take (i := 3) (v := ?_) rfl (by kernel_rfl) (by kernel_rfl) (by kernel_rfl) (fun _ _ _ h => h) (Or.inl ⟨by rfl, ?_⟩) hHeld ?_
        rotate_left
        · rintro w ⟨s0, s1, s2, s3, s4, s5⟩
          go_simp
          with_reducible rfl
        simp only [Act.put, List.getElem_toArray, List.getElem_cons_zero, List.getElem_cons_succ, List.setIfInBounds_toArray, List.set_cons_zero, List.set_cons_succ]
        refine rd 4 (fun K hK => ?_)
        go_simp
        refine hK.out _ _ (HS.out _ (bdrewn (alloc_below _ _))) (fun hHeld => ?_)
        clear hK K
        refine rd 5 (fun K hK => ?_)
        go_simp
        go_at_call 277
        refine (vright_b HR2.out (vrow2 (Blk.drew (blkAt (Blk.new _ _ _) (by simp))))).mono ?_
        rintro e w1 ⟨rfl, c1⟩
        go_wp2_with fail
        refine hK.out _ _ (HS.out _ (bthen (alloc_below _ _) (bdrew c1))) (fun hHeld => ?_)
        clear hK K
        refine tk 6 hHeld ?_
        refine tk 7 hHeld ?_
        refine tks 8 hHeld ?_
        refine tks 9 hHeld ?_
        refine tks 10 hHeld ?_
        refine tks 11 hHeld ?_
        refine tks 12 hHeld ?_
        refine tks 13 hHeld ?_
        refine tks 14 hHeld ?_
        refine tks 15 hHeld ?_
        refine tks 16 hHeld ?_
        refine tk 17 hHeld ?_
        refine wpAnyH_done (by kernel_rfl) ?_ _
        clear hHeld
        have B2 := Lib.hid (bthen (balloc (balloc HB.out _) _) (bdrew c1))
        have HG := Lib.hid (show okBox B = false by rw [HOk.out, HR2.out]; rfl)
        clear c1 m0 m1 m2 m3 m4 m5
        go_wp2
        go_ret
        exact ⟨by rw [rightBx_bad HV.out HG.out]; rfl, B2.out⟩
    · obtain rfl : k = len := by omega
      go_wp2
      go_ret
      exact ⟨by rw [show Bs = Bs.take k from (List.take_of_length_le (by rw [HL.out]; exact Nat.le_refl _)).symm, HR.out]; rfl, HB.out⟩

theorem brow1 {w : World} {g : Nat} {t : TypeId} {B : Nat → Int} (h : Blk w g t #[.int .i64 (B 0), .int .i64 (B 1), .int .i64 (B 2), .int .i64 (B 3), .int .i64 (B 4), .int .i64 (B 5)]) : BRow w (some ⟨g, 0, none⟩) 1 [B] := by
  refine ⟨rfl, by omega, Or.inr ⟨_, _, rfl, fun i hi j hj => ?_⟩⟩
  obtain rfl : i = 0 := by omega
  rcases lt6 hj with rfl | rfl | rfl | rfl | rfl | rfl
  · exact h.cell 0
  · exact h.cell 1
  · exact h.cell 2
  · exact h.cell 3
  · exact h.cell 4
  · exact h.cell 5
theorem shright1 {B : Nat → Int} {b : Bool} (ho : okBox B = b) {w : World} {g cap : Nat} {t : TypeId} (h : Blk w g t #[.int .i64 (B 0), .int .i64 (B 1), .int .i64 (B 2), .int .i64 (B 3), .int .i64 (B 4), .int .i64 (B 5)]) :
    Calls Tryz.prog 238 #[.slice (some ⟨g, 0, none⟩) 1 cap] w fun e w' => e = .returned (.bool b) ∧ Below w.heap.size w w' :=
  (shright_any _ 1 cap [B] w (brow1 h)).mono fun _ _ ⟨he, hw⟩ => ⟨by rw [he]; unfold rightBx; simp [ho], hw⟩
theorem okPlane_row {M : Nat → Int} (h : okM M = true) {r : Nat} (hr : r < 3) : okPlane (spM M r) = true := by
  unfold okPlane rightB spM
  simp [okM_at h (k := 4 * r + 1) (by omega), okM_at h (k := 4 * r + 2) (by omega), okM_at h (k := 4 * r + 3) (by omega)]
  exact okM_at h (k := 4 * r) (by omega)

set_option maxHeartbeats 1000000 in
set_option maxRecDepth 100000 in
theorem shcarry_no1 (M B : Nat → Int) (w : World) (h : okM M = false) :
    Calls Tryz.prog 216 #[.agg #[.int .i64 (M 0), .int .i64 (M 1), .int .i64 (M 2), .int .i64 (M 3), .int .i64 (M 4), .int .i64 (M 5), .int .i64 (M 6), .int .i64 (M 7), .int .i64 (M 8), .int .i64 (M 9), .int .i64 (M 10), .int .i64 (M 11)], .agg #[.int .i64 (B 0), .int .i64 (B 1), .int .i64 (B 2), .int .i64 (B 3), .int .i64 (B 4), .int .i64 (B 5)]] w fun e w' => e = .returned (.tuple #[.agg #[.int .i64 0, .int .i64 0, .int .i64 0, .int .i64 0, .int .i64 0, .int .i64 0], .int .i64 1]) ∧ Below w.heap.size w w' := by
  have HO := Lib.hid h
  clear h
  go_enter Tryz.func216, Tryz.ntmps216
  go_wp2_with fail
  refine (mright1 HO.out (blkAt (Blk.new _ _ _) (by simp))).mono ?_
  rintro e w1 ⟨rfl, b1⟩
  have KR := Lib.hid (blkAt (((Blk.new ((w.alloc _).alloc _) 50 _).alloc _).keep b1) (g' := w.heap.size + 2) (by simp))
  have B1 := Lib.hid (bthen (balloc (balloc (balloc (alloc_below _ _) _) _) _) b1)
  clear b1
  obtain ⟨c0, c1, c2, c3, c4, c5, f0, f1, f2, f3, f4, f5⟩ := blk6 KR.out
  go_wp2
  exact bodyPost_ret (v := .tuple #[.agg #[.int .i64 0, .int .i64 0, .int .i64 0, .int .i64 0, .int .i64 0, .int .i64 0], .int .i64 1]) (by simp [results, Tryz.results216, go_sem, c0, c1, c2, c3, c4, c5]) rfl ⟨rfl, bset6 B1.out (by omega)⟩

set_option maxHeartbeats 1000000 in
set_option maxRecDepth 100000 in
theorem shcarry_no2 (M B : Nat → Int) (w : World) (h : okM M = true) (h' : okBox B = false) :
    Calls Tryz.prog 216 #[.agg #[.int .i64 (M 0), .int .i64 (M 1), .int .i64 (M 2), .int .i64 (M 3), .int .i64 (M 4), .int .i64 (M 5), .int .i64 (M 6), .int .i64 (M 7), .int .i64 (M 8), .int .i64 (M 9), .int .i64 (M 10), .int .i64 (M 11)], .agg #[.int .i64 (B 0), .int .i64 (B 1), .int .i64 (B 2), .int .i64 (B 3), .int .i64 (B 4), .int .i64 (B 5)]] w fun e w' => e = .returned (.tuple #[.agg #[.int .i64 0, .int .i64 0, .int .i64 0, .int .i64 0, .int .i64 0, .int .i64 0], .int .i64 1]) ∧ Below w.heap.size w w' := by
  have HO := Lib.hid (And.intro h h')
  clear h h'
  go_enter Tryz.func216, Tryz.ntmps216
  go_wp2_with fail
  refine (mright1 HO.out.1 (blkAt (Blk.new _ _ _) (by simp))).mono ?_
  rintro e w1 ⟨rfl, b1⟩
  have KR := Lib.hid (blkAt (((Blk.new ((w.alloc _).alloc _) 50 _).alloc _).keep b1) (g' := w.heap.size + 2) (by simp))
  have KB := Lib.hid (blkAt ((((Blk.new (w.alloc _) 50 _).alloc _).alloc _).keep b1) (g' := w.heap.size + 1) (by simp))
  have B1 := Lib.hid (bthen (balloc (balloc (balloc (alloc_below _ _) _) _) _) b1)
  clear b1
  obtain ⟨d0, d1, d2, d3, d4, d5, _⟩ := blk6 KB.out
  have z := KB.out.lt
  go_wp2_with fail
  refine (shright1 HO.out.2 (blkAt (Blk.new _ _ _) (by simp))).mono ?_
  rintro e w2 ⟨rfl, b2⟩
  replace KR := Lib.hid ((KR.out.alloc _).keep b2)
  replace B1 := Lib.hid (bthen (balloc B1.out _) b2)
  clear b2 d0 d1 d2 d3 d4 d5 z
  obtain ⟨c0, c1, c2, c3, c4, c5, f0, f1, f2, f3, f4, f5⟩ := blk6 KR.out
  go_wp2
  exact bodyPost_ret (v := .tuple #[.agg #[.int .i64 0, .int .i64 0, .int .i64 0, .int .i64 0, .int .i64 0, .int .i64 0], .int .i64 1]) (by simp [results, Tryz.results216, go_sem, c0, c1, c2, c3, c4, c5]) rfl ⟨rfl, bset6 B1.out (by omega)⟩

set_option maxHeartbeats 2000000 in
set_option maxRecDepth 100000 in
theorem shcarry_yes (M B : Nat → Int) (w : World) (h : okM M = true) (h' : okBox B = true) :
    Calls Tryz.prog 216 #[.agg #[.int .i64 (M 0), .int .i64 (M 1), .int .i64 (M 2), .int .i64 (M 3), .int .i64 (M 4), .int .i64 (M 5), .int .i64 (M 6), .int .i64 (M 7), .int .i64 (M 8), .int .i64 (M 9), .int .i64 (M 10), .int .i64 (M 11)], .agg #[.int .i64 (B 0), .int .i64 (B 1), .int .i64 (B 2), .int .i64 (B 3), .int .i64 (B 4), .int .i64 (B 5)]] w fun e w' => e = .returned (.tuple #[.agg #[.int .i64 (carV M B 0), .int .i64 (carV M B 1), .int .i64 (carV M B 2), .int .i64 (carV M B 3), .int .i64 (carV M B 4), .int .i64 (carV M B 5)], .int .i64 (carE M B)]) ∧ Below w.heap.size w w' := by
  have HO := Lib.hid (And.intro h h')
  clear h h'
  go_enter Tryz.func216, Tryz.ntmps216
  go_wp2_with fail
  refine (mright1 HO.out.1 (blkAt (Blk.new _ _ _) (by simp))).mono ?_
  rintro e w1 ⟨rfl, b1⟩
  have KM := Lib.hid (((((Blk.new w 46 _).alloc _).alloc _).alloc _).keep b1)
  have KR := Lib.hid (blkAt (((Blk.new ((w.alloc _).alloc _) 50 _).alloc _).keep b1) (g' := w.heap.size + 2) (by simp))
  have KB := Lib.hid (blkAt ((((Blk.new (w.alloc _) 50 _).alloc _).alloc _).keep b1) (g' := w.heap.size + 1) (by simp))
  have B1 := Lib.hid (bthen (balloc (balloc (balloc (alloc_below _ _) _) _) _) b1)
  clear b1
  obtain ⟨d0, d1, d2, d3, d4, d5, _⟩ := blk6 KB.out
  have z := KB.out.lt
  go_wp2_with fail
  refine (shright1 HO.out.2 (blkAt (Blk.new _ _ _) (by simp))).mono ?_
  rintro e w2 ⟨rfl, b2⟩
  replace KM := Lib.hid ((KM.out.alloc _).keep b2)
  replace KR := Lib.hid ((KR.out.alloc _).keep b2)
  replace KB := Lib.hid ((KB.out.alloc _).keep b2)
  replace B1 := Lib.hid (bthen (balloc B1.out _) b2)
  clear b2 d0 d1 d2 d3 d4 d5 z
  go_wp2
  go_loopw [22] (fun i wr => ∃ k : Nat, k ≤ 3 ∧ i = .int .i64 k ∧ (∀ j, j < k → caE M B j = 0) ∧ wr.rowIs w2.heap.size 50 6 (rowsTo (caK M B) k) ∧ BM wr w.heap.size M ∧ Blk wr (w.heap.size + 1) 50 #[.int .i64 (B 0), .int .i64 (B 1), .int .i64 (B 2), .int .i64 (B 3), .int .i64 (B 4), .int .i64 (B 5)] ∧ Blk wr (w.heap.size + 2) 50 #[.int .i64 0, .int .i64 0, .int .i64 0, .int .i64 0, .int .i64 0, .int .i64 0] ∧ Below w.heap.size w wr) (fun i _ => 3 - (intOf i).toNat)
  case atStart => exact ⟨0, by omega, rfl, fun j hj => by omega, rows_start _ _ _, KM.out.alloc _, KB.out.alloc _, KR.out.alloc _, balloc B1.out _⟩
  case round =>
    have hne : w.heap.size + 2 < w2.heap.size := KR.out.lt
    clear KM KB KR B1
    obtain ⟨r, hr3, rfl, hz, hrow, ha, hbb, hres, hb⟩ := hrel
    have HZ := Lib.hid hz
    have HRow := Lib.hid hrow
    have HM := Lib.hid ha
    have KB := Lib.hid hbb
    have HRes := Lib.hid hres
    have HB := Lib.hid hb
    clear hz hrow ha hbb hres hb
    by_cases hr : r < 3
    · have HOP := Lib.hid (okPlane_row HO.out.1 hr)
      have hr0 : (0 : Int) ≤ (r : Int) := by omega
      have hrd : (r : Int) < 3 := by omega
      have hsM := sizeM M
      have hu := Tryz.underlying46
      have HS : Hid (∀ w', Below wr.heap.size wr w' → (w'.rangeAt w.heap.size 0 [.int .i64 (M 0), .int .i64 (M 1), .int .i64 (M 2), .int .i64 (M 3), .int .i64 (M 4), .int .i64 (M 5), .int .i64 (M 6), .int .i64 (M 7), .int .i64 (M 8), .int .i64 (M 9), .int .i64 (M 10), .int .i64 (M 11)] ∧ w'.cell? ⟨w.heap.size + 1, 0, none⟩ = some (.int .i64 (B 0)) ∧ w'.cell? ⟨w.heap.size + 1, 1, none⟩ = some (.int .i64 (B 1)) ∧ w'.cell? ⟨w.heap.size + 1, 2, none⟩ = some (.int .i64 (B 2)) ∧ w'.cell? ⟨w.heap.size + 1, 3, none⟩ = some (.int .i64 (B 3)) ∧ w'.cell? ⟨w.heap.size + 1, 4, none⟩ = some (.int .i64 (B 4)) ∧ w'.cell? ⟨w.heap.size + 1, 5, none⟩ = some (.int .i64 (B 5)))) :=
        Lib.hid (fun w' hb => ⟨rangeM (Blk.keep HM.out hb), (KB.out.keep hb).cell 0, (KB.out.keep hb).cell 1, (KB.out.keep hb).cell 2, (KB.out.keep hb).cell 3, (KB.out.keep hb).cell 4, (KB.out.keep hb).cell 5⟩)
      go_wp2
      go_region_held3 (fun w' => w'.rangeAt w.heap.size 0 [.int .i64 (M 0), .int .i64 (M 1), .int .i64 (M 2), .int .i64 (M 3), .int .i64 (M 4), .int .i64 (M 5), .int .i64 (M 6), .int .i64 (M 7), .int .i64 (M 8), .int .i64 (M 9), .int .i64 (M 10), .int .i64 (M 11)] ∧ w'.cell? ⟨w.heap.size + 1, 0, none⟩ = some (.int .i64 (B 0)) ∧ w'.cell? ⟨w.heap.size + 1, 1, none⟩ = some (.int .i64 (B 1)) ∧ w'.cell? ⟨w.heap.size + 1, 2, none⟩ = some (.int .i64 (B 2)) ∧ w'.cell? ⟨w.heap.size + 1, 3, none⟩ = some (.int .i64 (B 3)) ∧ w'.cell? ⟨w.heap.size + 1, 4, none⟩ = some (.int .i64 (B 4)) ∧ w'.cell? ⟨w.heap.size + 1, 5, none⟩ = some (.int .i64 (B 5)))
        (first | exact HS.out _ (bthen (bdrew x1) x2) | exact HS.out _ (bdrew x1) | exact HS.out _ (bdrewn (Below.refl _ _)))
        (first | (go_at_call 263; refine (ends_any (spM M r) B _ HOP.out HO.out.2).mono ?_; rintro e w4 ⟨rfl, x2⟩) | (go_at_call 264; refine (split_any M r _ hr).mono ?_; rintro e w3 ⟨rfl, x1⟩))
      have B3 := Lib.hid (bthen (bdrew x1) x2)
      clear x1 x2 HS
      have HRow2 := Lib.hid (HRow.out.of_block (B3.out.block _ HRow.out.lt))
      have HM2 := Lib.hid (Blk.keep HM.out B3.out)
      have KB2 := Lib.hid (KB.out.keep B3.out)
      have HRes2 := Lib.hid (HRes.out.keep B3.out)
      have HB2 := Lib.hid (bthen HB.out B3.out)
      clear B3 HRow HM KB HRes HB
      obtain ⟨p, hp⟩ : ∃ p, p = enLo (spM M r) B (spM M r 3) := ⟨_, rfl⟩
      obtain ⟨q, hq⟩ : ∃ q, q = enHi (spM M r) B (spM M r 3) := ⟨_, rfl⟩
      obtain ⟨s, hs⟩ : ∃ s, s = enE (spM M r) B (spM M r 3) := ⟨_, rfl⟩
      have HD : Hid (caLo M B r = p ∧ caHi M B r = q ∧ caE M B r = s) := Lib.hid (by rw [hp, hq, hs]; exact ⟨rfl, rfl, rfl⟩)
      rw [← hp, ← hq, ← hs]
      clear hp hq hs
      by_cases he : s = 0
      · have HEk := Lib.hid he
        have he' : (s != 0) = false := by rw [he]; rfl
        clear he
        have rc := HRow2.out.cell (i := r) (by omega)
        have rf := HRow2.out.frozen r
        have rd := (HRow2.out.set r (.int .i64 p)).cell (i := 3 + r) (by omega)
        have rg := (HRow2.out.set r (.int .i64 p)).frozen (3 + r)
        unfold rowsTo at rc rd
        rw [if_neg (by omega)] at rc
        rw [if_neg (by omega), if_neg (by omega)] at rd
        go_wp2
        go_roundw
        case rel => exact ⟨r + 1, by omega, by go_num, err_step HZ.out (by rw [HD.out.2.2]; exact HEk.out), ((HRow2.out.set r _).set (3 + r) _).congr (fun i hi => by rw [← HD.out.1, ← HD.out.2.1, show caLo M B r = caK M B r by unfold caK; rw [if_pos hr], show caHi M B r = caK M B (3 + r) by unfold caK; rw [if_neg (by omega), show 3 + r - 3 = r by omega]]; exact rows_step _ hr hi), (Blk.far HM2.out (by simp <;> omega) _).far (by simp <;> omega) _, (KB2.out.far (by simp <;> omega) _).far (by simp <;> omega) _, (HRes2.out.far (by simp <;> omega) _).far (by simp <;> omega) _, (HB2.out.setCell (by simp <;> omega) _).setCell (by simp <;> omega) _⟩
        case measure => simp [intOf] <;> omega
      · have HEk := Lib.hid he
        have he' : (s != 0) = true := by simpa using he
        clear he HRow2 HM2 KB2
        obtain ⟨c0, c1, c2, c3, c4, c5, f0, f1, f2, f3, f4, f5⟩ := blk6 HRes2.out
        go_wp2
        have e1 : carE M B = s := by
          rw [carE_yes HO.out.1 HO.out.2, ← HD.out.2.2]
          exact first3_at (e := caE M B) hr HZ.out (by rw [HD.out.2.2]; exact HEk.out)
        have e2 : ∀ v, gate s v = 0 := fun v => by unfold gate; rw [if_neg HEk.out]
        exact bodyPost_ret (v := .tuple #[.agg #[.int .i64 0, .int .i64 0, .int .i64 0, .int .i64 0, .int .i64 0, .int .i64 0], .int .i64 s]) (by simp [results, Tryz.results216, go_sem, c0, c1, c2, c3, c4, c5]) rfl ⟨by rw [carV_of e1, carV_of e1, carV_of e1, carV_of e1, carV_of e1, carV_of e1, e1, e2, e2, e2, e2, e2, e2], bset6 HB2.out (by omega)⟩
    · obtain rfl : r = 3 := by omega
      have e1 : carE M B = 0 := by rw [carE_yes HO.out.1 HO.out.2]; exact first3_none (e := caE M B) HZ.out
      have HE := Lib.hid e1
      clear e1
      have o0 : wr.cell? ⟨w2.heap.size, 0, none⟩ = some (.int .i64 (caK M B 0)) := HRow.out.cell (i := 0) (by omega)
      have o1 : wr.cell? ⟨w2.heap.size, 1, none⟩ = some (.int .i64 (caK M B 1)) := HRow.out.cell (i := 1) (by omega)
      have o2 : wr.cell? ⟨w2.heap.size, 2, none⟩ = some (.int .i64 (caK M B 2)) := HRow.out.cell (i := 2) (by omega)
      have o3 : wr.cell? ⟨w2.heap.size, 3, none⟩ = some (.int .i64 (caK M B 3)) := HRow.out.cell (i := 3) (by omega)
      have o4 : wr.cell? ⟨w2.heap.size, 4, none⟩ = some (.int .i64 (caK M B 4)) := HRow.out.cell (i := 4) (by omega)
      have o5 : wr.cell? ⟨w2.heap.size, 5, none⟩ = some (.int .i64 (caK M B 5)) := HRow.out.cell (i := 5) (by omega)
      obtain ⟨c0, c1, c2, c3, c4, c5, f0, f1, f2, f3, f4, f5⟩ := blk6 HRes.out
      go_wp2
      exact bodyPost_ret (v := .tuple #[.agg #[.int .i64 (caK M B 0), .int .i64 (caK M B 1), .int .i64 (caK M B 2), .int .i64 (caK M B 3), .int .i64 (caK M B 4), .int .i64 (caK M B 5)], .int .i64 0]) (by simp [results, Tryz.results216, go_sem, c0, c1, c2, c3, c4, c5]) rfl ⟨by rw [carV_of HE.out, carV_of HE.out, carV_of HE.out, carV_of HE.out, carV_of HE.out, carV_of HE.out, HE.out, gate0, gate0, gate0, gate0, gate0, gate0], bset6 HB.out (by omega)⟩

theorem shcarry_any (M B : Nat → Int) (w : World) :
    Calls Tryz.prog 216 #[.agg #[.int .i64 (M 0), .int .i64 (M 1), .int .i64 (M 2), .int .i64 (M 3), .int .i64 (M 4), .int .i64 (M 5), .int .i64 (M 6), .int .i64 (M 7), .int .i64 (M 8), .int .i64 (M 9), .int .i64 (M 10), .int .i64 (M 11)], .agg #[.int .i64 (B 0), .int .i64 (B 1), .int .i64 (B 2), .int .i64 (B 3), .int .i64 (B 4), .int .i64 (B 5)]] w fun e w' => e = .returned (.tuple #[.agg #[.int .i64 (carV M B 0), .int .i64 (carV M B 1), .int .i64 (carV M B 2), .int .i64 (carV M B 3), .int .i64 (carV M B 4), .int .i64 (carV M B 5)], .int .i64 (carE M B)]) ∧ Below w.heap.size w w' := by
  by_cases h : okM M = true
  · by_cases h' : okBox B = true
    · exact shcarry_yes M B w h h'
    · have h2 : okBox B = false := by simpa using h'
      have h3 : carOk M B = false := by unfold carOk; rw [h2, Bool.and_false]
      rw [carE_no h3, carV_no h3, carV_no h3, carV_no h3, carV_no h3, carV_no h3, carV_no h3]
      exact shcarry_no2 M B w h h2
  · have h2 : okM M = false := by simpa using h
    have h3 : carOk M B = false := by unfold carOk; rw [h2, Bool.false_and]
    rw [carE_no h3, carV_no h3, carV_no h3, carV_no h3, carV_no h3, carV_no h3, carV_no h3]
    exact shcarry_no1 M B w h2

theorem zT_bound : 0 ≤ zT.1 ∧ zT.1 ≤ 31 := by decide
theorem eqT_run (P Q : PT) (w : World) : (Op.equalIn 10000 52 (.agg (pl P).toArray) (.agg (pl Q).toArray)).run Tryz.prog w = .ok (eqT P Q) w := eqParts _ _ _ _ _ _ _ _ _ _ _ _ _ _ _ _ w

set_option maxHeartbeats 4000000 in
set_option maxRecDepth 100000 in
theorem only_any (P : PT) (s : Int) (w : World) :
    Calls Tryz.prog 234 #[.agg (pl P).toArray, .int .i64 s] w fun e w' => e = .returned (.agg (pl (pickT s P)).toArray) ∧ Below w.heap.size w w' := by
  rw [← with_pick s P]
  obtain ⟨R, hR⟩ : ∃ R, R = withT zT P (kindsL s) := ⟨_, rfl⟩
  have HC : Hid (∀ a cap w, Row w a (kindsL s).length (kindsL s) → Calls Tryz.prog 232 #[.agg (pl zT).toArray, .agg (pl P).toArray, .slice a (kindsL s).length cap] w fun e w' => e = .returned (.agg (pl R).toArray) ∧ Below w.heap.size w w') := Lib.hid (fun a cap w row => by rw [hR]; exact lay_any zT P a _ cap (kindsL s) w zT_bound (kindsL_ok s) row)
  rw [← hR]
  clear hR
  have hu := Tryz.underlying52
  have HSz := Lib.hid (pl_size P)
  have KP := Lib.hid ((Blk.new w 52 (pl P).toArray).alloc (.cells (pl zT).toArray 52))
  have KR := Lib.hid (blkAt (Blk.new (w.alloc (.cells (pl P).toArray 52)) 52 (pl zT).toArray) (g' := w.heap.size + 1) (by simp))
  go_enter Tryz.func234, Tryz.ntmps234
  go_wp2
  refine wp_region_held_drew (S := fun w' => w'.rangeAt w.heap.size 0 (pl P)) (by kernel_rfl) (blk_whole (Blk.drew KP.out)) (fun hHeld => ?_)
  refine tk 0 hHeld ?_
  refine tkl 1 rfl (yieldsIf_load_mid (by rfl) _ _ rfl _ _ rfl _ _ (fun _ h => h) hu rfl HSz.out) hHeld ?_
  refine tk 2 hHeld ?_
  refine rd 3 (fun K hK => ?_)
  go_simp
  go_at_call 276
  refine (pkinds_any s _).mono ?_
  rintro e w1 ⟨ka, kc, rfl, hrow, b1⟩
  go_wp2_with fail
  refine hK.out _ _ (blk_whole (Blk.keep (Blk.drew KP.out) b1)) (fun hHeld => ?_)
  clear hK K hHeld
  replace KP := Lib.hid (Blk.keep (Blk.drew KP.out) b1)
  replace KR := Lib.hid (Blk.keep (Blk.drew KR.out) b1)
  have HB := Lib.hid (bthen (balloc (alloc_below _ _) _) (bdrew b1))
  have HRow := Lib.hid hrow
  have hHeld : Hid (w1.rangeAt w.heap.size 0 (pl P)) := Lib.hid (blk_whole KP.out)
  clear b1 hrow
  replace hHeld := hHeld.out
  refine rd 4 (fun K hK => ?_)
  go_simp
  go_at_call 232
  refine (HC.out _ _ _ HRow.out).mono ?_
  rintro e w2 ⟨rfl, b2⟩
  go_wp2_with fail
  refine hK.out _ _ (blk_whole (Blk.keep KP.out b2)) (fun hHeld => ?_)
  clear hK K hHeld
  replace KP := Lib.hid (Blk.keep KP.out b2)
  replace KR := Lib.hid (Blk.keep KR.out b2)
  replace HB := Lib.hid (bthen HB.out b2)
  have hHeld := blk_whole KP.out
  clear b2 HRow
  have HS5 := Lib.hid (splice_all (X := pl R) (Z := pl zT) rfl ▸ blk_setCells (pl R) KR.out (by simp [pl_len]))
  refine rd 5 (fun K hK => ?_)
  rw [if_pos (by rfl)]
  refine wp_store_mid 52 _ _ rfl (w.heap.size + 1) 0 (pl R).toArray rfl rfl (blk_there KR.out (by simp [pl_len])) (pl_size' _) (pl_one _) ?_
  refine hK.out _ _ (blk_whole (blk_setFar _ KP.out (by omega))) (fun hHeld => ?_)
  clear hK K
  refine wpAnyH_done (by kernel_rfl) ?_ _
  clear hHeld
  go_wp2_with fail
  refine fin (fun W => Blk W (w.heap.size + 1) 52 (pl R).toArray ∧ Below w.heap.size w W) ⟨HS5.out, below_setCells _ HB.out (by omega)⟩ ?_
  rintro W ⟨kr, hb⟩
  have hl := run_loadVar_mid W (w.heap.size + 1) 0 52 (pl R) _ (blk_whole kr) Tryz.underlying52 rfl (pl_size R)
  exact bodyPost_ret (v := .agg (pl R).toArray) (results_cell Tryz.results234 rfl hl) rfl ⟨rfl, hb⟩

set_option maxHeartbeats 4000000 in
set_option maxRecDepth 100000 in
theorem bare_any (P : PT) (w : World) :
    Calls Tryz.prog 177 #[.agg (pl P).toArray] w fun e w' => e = .returned (.bool (bareB P)) ∧ Below w.heap.size w w' := by
  have HC := Lib.hid (only_any P P.1)
  have heq := eqT_run (pickT P.1 P) P
  rw [show eqT (pickT P.1 P) P = bareB P from rfl] at heq
  obtain ⟨R, hR⟩ : ∃ R, R = pickT P.1 P := ⟨_, rfl⟩
  rw [← hR] at HC heq
  clear hR
  obtain ⟨b, hb⟩ : ∃ b, b = bareB P := ⟨_, rfl⟩
  rw [← hb] at heq
  rw [← hb]
  clear hb
  have hu := Tryz.underlying52
  have HSz := Lib.hid (pl_size P)
  have KP := Lib.hid (Blk.new w 52 (pl P).toArray)
  go_enter Tryz.func177, Tryz.ntmps177
  go_wp2
  refine wp_region_held_drew (S := fun w' => w'.rangeAt w.heap.size 0 (pl P) ∧ w'.cell? ⟨w.heap.size, 0, none⟩ = some (.int .i64 P.1)) (by kernel_rfl) ⟨blk_whole (Blk.drew KP.out), KP.out.cell 0⟩ (fun hHeld => ?_)
  refine tkl 0 rfl (yieldsIf_load_mid (by rfl) _ _ rfl _ _ rfl _ _ (fun _ h => h.1) hu rfl HSz.out) hHeld ?_
  refine wpAnyH_take (i := 1) (v := ?_) rfl (by kernel_rfl) (by kernel_rfl) (by kernel_rfl) (fun _ _ _ h => h) (Or.inl ⟨by rfl, ?_⟩) hHeld ?_
  rotate_left
  · rintro w ⟨s1, s2⟩
    go_simp
    with_reducible rfl
  simp only [Act.put, List.getElem_toArray, List.getElem_cons_zero, List.getElem_cons_succ, List.setIfInBounds_toArray, List.set_cons_zero, List.set_cons_succ]
  refine wpAnyH_take (i := 2) (v := ?_) rfl (by kernel_rfl) (by kernel_rfl) (by kernel_rfl) (fun _ _ _ h => h) (Or.inl ⟨by rfl, ?_⟩) hHeld ?_
  rotate_left
  · rintro w ⟨s1, s2⟩
    go_simp
    with_reducible rfl
  simp only [Act.put, List.getElem_toArray, List.getElem_cons_zero, List.getElem_cons_succ, List.setIfInBounds_toArray, List.set_cons_zero, List.set_cons_succ]
  refine tkl 4 rfl (yieldsIf_load_mid (by rfl) _ _ rfl _ _ rfl _ _ (fun _ h => h.1) hu rfl HSz.out) hHeld ?_
  refine rd 3 (fun K hK => ?_)
  go_simp
  go_at_call 234
  refine (HC.out _).mono ?_
  rintro e w1 ⟨rfl, b1⟩
  go_wp2_with fail
  refine hK.out _ _ ⟨blk_whole (Blk.keep (Blk.drew KP.out) b1), (Blk.keep (Blk.drew KP.out) b1).cell 0⟩ (fun hHeld => ?_)
  clear hK K
  have HB := Lib.hid (bthen (alloc_below _ _) (bdrew b1))
  clear b1
  refine wpAnyH_take (i := 5) (v := ?_) rfl (by kernel_rfl) (by kernel_rfl) (by kernel_rfl) (fun _ _ _ h => h) (Or.inl ⟨by rfl, ?_⟩) hHeld ?_
  rotate_left
  · rintro w ⟨s1, s2⟩
    go_simp
    with_reducible rfl
  simp only [Act.put, List.getElem_toArray, List.getElem_cons_zero, List.getElem_cons_succ, List.setIfInBounds_toArray, List.set_cons_zero, List.set_cons_succ]
  refine wpAnyH_take (i := 6) (v := ?_) rfl (by kernel_rfl) (by kernel_rfl) (by kernel_rfl) (fun _ _ _ h => h) (Or.inl ⟨by rfl, ?_⟩) hHeld ?_
  rotate_left
  · rintro w ⟨s1, s2⟩
    go_simp
    with_reducible rfl
  simp only [Act.put, List.getElem_toArray, List.getElem_cons_zero, List.getElem_cons_succ, List.setIfInBounds_toArray, List.set_cons_zero, List.set_cons_succ]
  refine wpAnyH_done (by kernel_rfl) ?_ _
  clear hHeld
  go_wp2_with fail
  go_ret
  exact ⟨rfl, HB.out⟩

theorem wpList_load_g {ops : Array Oper} {rest : List Oper} {op : Oper} {a : Act} {w : World} {Q : Exit → Act → World → Prop} (hw : Region.wanted op (yielded ops a.tmps) = true) (ty : TypeId) (x : Operand) (ho : op.op = .load ty x)
    (b o : Nat) (hx : a.eval x = .pointer (some ⟨b, o, none⟩)) (cs : List Value) (d : TypeDesc) (hc : w.rangeAt b o cs)
    (hu : Tryz.prog.underlying ty = some d) (hd : d.isRow = true) (hi : (Tryz.prog.info? ty).map (·.size) = some cs.length)
    (h : wpList Tryz.prog ops Q rest (a.put op.dst (.agg cs.toArray)) w) : wpList Tryz.prog ops Q (op :: rest) a w := by
  rw [wpList, if_pos hw]
  exact Or.inl (wp_load_mid ty x ho b o hx cs d hc hu hd hi h)

set_option maxHeartbeats 4000000 in
set_option maxRecDepth 100000 in
theorem val_any (h : Int) (M : Nat → Int) (m : Int) (B : Nat → Int) (p a : Int) (c : Bool) (l : Int) (w : World) :
    Calls Tryz.prog 176 #[.agg (PL h M m B p a c l).toArray] w fun e w' => e = .returned (.bool (restB M m B p a l)) ∧ Below w.heap.size w w' := by
  unfold restB
  obtain ⟨b1, h1⟩ : ∃ b, okM M = b := ⟨_, rfl⟩
  obtain ⟨b2, h2⟩ : ∃ b, inB m 255 = b := ⟨_, rfl⟩
  obtain ⟨b3, h3⟩ : ∃ b, okBox B = b := ⟨_, rfl⟩
  obtain ⟨b4, h4⟩ : ∃ b, inB p 63 = b := ⟨_, rfl⟩
  obtain ⟨b5, h5⟩ : ∃ b, inB a 255 = b := ⟨_, rfl⟩
  obtain ⟨b6, h6⟩ : ∃ b, inB l 255 = b := ⟨_, rfl⟩
  have H1 := Lib.hid h1
  have H2 := Lib.hid h2
  have H3 := Lib.hid h3
  have H4 := Lib.hid h4
  have H5 := Lib.hid h5
  have H6 := Lib.hid h6
  rw [h1, h2, h3, h4, h5, h6]
  clear h1 h2 h3 h4 h5 h6
  have HR1 : Hid (∀ u g, Blk u g 52 (PL h M m B p a c l).toArray → u.rangeAt g 1 [.int .i64 (M 0), .int .i64 (M 1), .int .i64 (M 2), .int .i64 (M 3), .int .i64 (M 4), .int .i64 (M 5), .int .i64 (M 6), .int .i64 (M 7), .int .i64 (M 8), .int .i64 (M 9), .int .i64 (M 10), .int .i64 (M 11)]) := Lib.hid (fun u g k => blk_range k 1 12)
  have HR2 : Hid (∀ u g, Blk u g 52 (PL h M m B p a c l).toArray → u.rangeAt g 14 [.int .i64 (B 0), .int .i64 (B 1), .int .i64 (B 2), .int .i64 (B 3), .int .i64 (B 4), .int .i64 (B 5)]) := Lib.hid (fun u g k => blk_range k 14 6)
  have HC : Hid (∀ u g, Blk u g 52 (PL h M m B p a c l).toArray → u.cell? ⟨g, 13, none⟩ = some (.int .i64 m) ∧ u.cell? ⟨g, 20, none⟩ = some (.int .i64 p) ∧ u.cell? ⟨g, 21, none⟩ = some (.int .i64 a) ∧ u.cell? ⟨g, 23, none⟩ = some (.int .i64 l)) := Lib.hid (fun u g k => ⟨k.cell 13, k.cell 20, k.cell 21, k.cell 23⟩)
  have HS1 : Hid ((Tryz.prog.info? 46).map (·.size) = some ([.int .i64 (M 0), .int .i64 (M 1), .int .i64 (M 2), .int .i64 (M 3), .int .i64 (M 4), .int .i64 (M 5), .int .i64 (M 6), .int .i64 (M 7), .int .i64 (M 8), .int .i64 (M 9), .int .i64 (M 10), .int .i64 (M 11)] : List Value).length) := Lib.hid (by kernel_rfl)
  have HS2 : Hid ((Tryz.prog.info? 50).map (·.size) = some ([.int .i64 (B 0), .int .i64 (B 1), .int .i64 (B 2), .int .i64 (B 3), .int .i64 (B 4), .int .i64 (B 5)] : List Value).length) := Lib.hid (by kernel_rfl)
  obtain ⟨X, hX⟩ : ∃ X, X = PL h M m B p a c l := ⟨_, rfl⟩
  rw [← hX] at HR1 HR2 HC
  rw [← hX]
  clear hX
  have KP := Lib.hid (Blk.new w 52 X.toArray)
  go_enter Tryz.func176, Tryz.ntmps176
  go_wp2_with (refine wpList_load_mid rfl 46 (.tmp 3) rfl w.heap.size 1 rfl [.int .i64 (M 0), .int .i64 (M 1), .int .i64 (M 2), .int .i64 (M 3), .int .i64 (M 4), .int .i64 (M 5), .int .i64 (M 6), .int .i64 (M 7), .int .i64 (M 8), .int .i64 (M 9), .int .i64 (M 10), .int .i64 (M 11)] _ (HR1.out _ _ KP.out) Tryz.underlying46 rfl HS1.out ?_)
  refine (mright1 H1.out (blkAt (Blk.new _ _ _) (by simp))).mono ?_
  rintro e w1 ⟨rfl, k1⟩
  replace KP := Lib.hid ((KP.out.alloc _).keep k1)
  have HB := Lib.hid (bthen (balloc (alloc_below _ _) _) k1)
  clear k1 H1
  cases b1 with
  | false =>
    go_wp2
    go_ret
    exact ⟨rfl, HB.out⟩
  | true =>
    obtain ⟨c13, c20, c21, c23⟩ := HC.out _ _ KP.out
    have z := KP.out.lt
    go_wp2_with fail
    refine (pin_bb H2.out _).mono ?_
    rintro e w2 ⟨rfl, rfl⟩
    clear H2
    cases b2 with
    | false =>
      go_wp2
      go_ret
      exact ⟨rfl, HB.out⟩
    | true =>
      go_wp2_with (refine wpList_load_g (by rfl) 50 (.tmp 13) rfl w.heap.size 14 rfl [.int .i64 (B 0), .int .i64 (B 1), .int .i64 (B 2), .int .i64 (B 3), .int .i64 (B 4), .int .i64 (B 5)] _ (HR2.out _ _ KP.out) Tryz.underlying50 rfl HS2.out ?_)
      refine (shright1 H3.out (Blk.new _ _ _)).mono ?_
      rintro e w3 ⟨rfl, k3⟩
      replace KP := Lib.hid ((KP.out.alloc _).keep k3)
      replace HB := Lib.hid (bthen (balloc HB.out _) k3)
      clear k3 c13 c20 c21 c23 z H3
      obtain ⟨c13, c20, c21, c23⟩ := HC.out _ _ KP.out
      have z := KP.out.lt
      cases b3 with
      | false =>
        go_wp2
        go_ret
        exact ⟨rfl, HB.out⟩
      | true =>
        go_wp2_with fail
        refine (pin_bb H4.out _).mono ?_
        rintro e w4 ⟨rfl, rfl⟩
        clear H4
        cases b4 with
        | false =>
          go_wp2
          go_ret
          exact ⟨rfl, HB.out⟩
        | true =>
          go_wp2_with fail
          refine (pin_bb H5.out _).mono ?_
          rintro e w5 ⟨rfl, rfl⟩
          clear H5
          cases b5 with
          | false =>
            go_wp2
            go_ret
            exact ⟨rfl, HB.out⟩
          | true =>
            go_wp2_with fail
            refine (pin_bb H6.out _).mono ?_
            rintro e w6 ⟨rfl, rfl⟩
            clear H6
            go_wp2
            go_ret
            exact ⟨by simp, HB.out⟩
theorem valT {P : PT} {b : Bool} (h : valB P = b) (w : World) : Calls Tryz.prog 176 #[.agg (pl P).toArray] w fun e w' => e = .returned (.bool b) ∧ Below w.heap.size w w' := by
  subst h
  exact val_any _ _ _ _ _ _ _ _ w
theorem bareT {P : PT} {b : Bool} (h : bareB P = b) (w : World) : Calls Tryz.prog 177 #[.agg (pl P).toArray] w fun e w' => e = .returned (.bool b) ∧ Below w.heap.size w w' := by
  subst h
  exact bare_any P w

set_option maxHeartbeats 2000000 in
set_option maxRecDepth 100000 in
theorem pright_any (P : PT) (w : World) :
    Calls Tryz.prog 110 #[.agg (pl P).toArray] w fun e w' => e = .returned (.bool (rightT P)) ∧ Below w.heap.size w w' := by
  rw [right_split]
  obtain ⟨b1, h1⟩ : ∃ b, valB P = b := ⟨_, rfl⟩
  obtain ⟨b2, h2⟩ : ∃ b, bareB P = b := ⟨_, rfl⟩
  have H1 := Lib.hid h1
  have H2 := Lib.hid h2
  rw [h1, h2]
  clear h1 h2
  have KP := Lib.hid (Blk.new w 52 (pl P).toArray)
  have HSz := Lib.hid (pl_size P)
  go_enter Tryz.func110, Tryz.ntmps110
  go_wp2_with (refine wpList_load_mid rfl 52 (.tmp 1) rfl w.heap.size 0 rfl (pl P) _ (blk_whole KP.out) Tryz.underlying52 rfl HSz.out ?_)
  refine (valT H1.out _).mono ?_
  rintro e w1 ⟨rfl, k1⟩
  replace KP := Lib.hid (KP.out.keep k1)
  have HB := Lib.hid (bthen (alloc_below _ _) k1)
  clear k1 H1
  cases b1 with
  | false =>
    go_wp2
    go_ret
    exact ⟨rfl, HB.out⟩
  | true =>
    go_wp2_with (refine wpList_load_g (by rfl) 52 (.tmp 1) rfl w.heap.size 0 rfl (pl P) _ (blk_whole KP.out) Tryz.underlying52 rfl HSz.out ?_)
    refine (bareT H2.out _).mono ?_
    rintro e w2 ⟨rfl, k2⟩
    replace HB := Lib.hid (bthen HB.out k2)
    clear k2 H2
    go_wp2
    go_ret
    exact ⟨by simp, HB.out⟩
theorem prightT {P : PT} {b : Bool} (h : rightT P = b) (w : World) : Calls Tryz.prog 110 #[.agg (pl P).toArray] w fun e w' => e = .returned (.bool b) ∧ Below w.heap.size w w' := by
  subst h
  exact pright_any P w

theorem hasAll_ok {s : Int} {ks : List Int} (h : hasAll s ks = true) : ksOk ks = true := by
  cases c : ksOk ks with
  | true => rfl
  | false => rw [hasAll_no c] at h; cases h

set_option maxHeartbeats 4000000 in
set_option maxRecDepth 100000 in
theorem pwith_any (P Q : PT) (a : Option Addr) (len cap : Nat) (ks : List Int) (w : World) (row : Row w a len ks) :
    Calls Tryz.prog 164 #[.agg (pl P).toArray, .agg (pl Q).toArray, .slice a len cap] w fun e w' => e = .returned (.tuple #[.agg (pl (withV P Q ks)).toArray, .int .i64 (withE P Q ks)]) ∧ Below w.heap.size w w' := by
  have HRow := Lib.hid row
  clear row
  obtain ⟨b1, h1⟩ : ∃ b, rightT P = b := ⟨_, rfl⟩
  obtain ⟨b2, h2⟩ : ∃ b, rightT Q = b := ⟨_, rfl⟩
  obtain ⟨b3, h3⟩ : ∃ b, hasAll Q.1 ks = b := ⟨_, rfl⟩
  have H1 := Lib.hid h1
  have H2 := Lib.hid h2
  have H3 := Lib.hid h3
  have HOk : Hid (withOk P Q ks = (b1 && b2 && b3)) := Lib.hid (by unfold withOk; rw [h1, h2, h3])
  clear h1 h2 h3
  have HSZ := Lib.hid (pl_size' zT)
  have HOZ := Lib.hid (pl_one zT)
  have HLZ := Lib.hid (pl_len zT)
  have HSzP := Lib.hid (pl_size P)
  have HSzQ := Lib.hid (pl_size Q)
  have KP := Lib.hid (((Blk.new w 52 (pl P).toArray).alloc (.cells (pl Q).toArray 52)).alloc (.cells (pl zT).toArray 52))
  have KQ := Lib.hid (blkAt ((Blk.new (w.alloc (.cells (pl P).toArray 52)) 52 (pl Q).toArray).alloc (.cells (pl zT).toArray 52)) (g' := w.heap.size + 1) (by simp))
  have KR := Lib.hid (blkAt (Blk.new ((w.alloc (.cells (pl P).toArray 52)).alloc (.cells (pl Q).toArray 52)) 52 (pl zT).toArray) (g' := w.heap.size + 1 + 1) (by simp))
  go_enter Tryz.func164, Tryz.ntmps164
  go_wp2_with (refine wpList_load_mid rfl 52 (.tmp 3) rfl w.heap.size 0 rfl (pl P) _ (blk_whole KP.out) Tryz.underlying52 rfl HSzP.out ?_)
  refine (prightT H1.out _).mono ?_
  rintro e w1 ⟨rfl, k1⟩
  replace KP := Lib.hid (KP.out.keep k1)
  replace KQ := Lib.hid (KQ.out.keep k1)
  replace KR := Lib.hid (KR.out.keep k1)
  have HB := Lib.hid (bthen (balloc (balloc (alloc_below _ _) _) _) k1)
  replace HRow := Lib.hid (row_keep HRow.out HB.out)
  clear k1
  cases b1 with
  | false =>
    have HNo := Lib.hid (with_no (P := P) (Q := Q) (ks := ks) (by rw [HOk.out]; rfl))
    go_wp2_with (refine wpList_store_mid rfl 52 (.tmp 6) (.tmp 23) rfl (w.heap.size + 1 + 1) 0 (pl zT).toArray rfl rfl (blk_there KR.out (by simp [HLZ.out])) HSZ.out HOZ.out ?_)
    have KW := Lib.hid (splice_all (X := pl zT) (Z := pl zT) rfl ▸ blk_setCells (pl zT) KR.out (by omega))
    refine fin (fun W => Blk W (w.heap.size + 1 + 1) 52 (pl zT).toArray ∧ Below w.heap.size w W) ⟨KW.out, below_setCells _ HB.out (by omega)⟩ ?_
    rintro W ⟨kr, hb⟩
    have hl := run_loadVar_mid W (w.heap.size + 1 + 1) 0 52 (pl zT) _ (blk_whole kr) Tryz.underlying52 rfl (pl_size zT)
    exact bodyPost_ret (v := .tuple #[.agg (pl zT).toArray, .int .i64 1]) (results_cell2 Tryz.results164 rfl rfl hl) rfl ⟨by rw [HNo.out.1, HNo.out.2], hb⟩
  | true =>
    go_wp2_with (refine wpList_load_g (by rfl) 52 (.tmp 4) rfl (w.heap.size + 1) 0 rfl (pl Q) _ (blk_whole KQ.out) Tryz.underlying52 rfl HSzQ.out ?_)
    refine (prightT H2.out _).mono ?_
    rintro e w2 ⟨rfl, k2⟩
    replace KP := Lib.hid (KP.out.keep k2)
    replace KQ := Lib.hid (KQ.out.keep k2)
    replace KR := Lib.hid (KR.out.keep k2)
    replace HB := Lib.hid (bthen HB.out k2)
    replace HRow := Lib.hid (row_keep HRow.out k2)
    clear k2
    cases b2 with
    | false =>
      have HNo := Lib.hid (with_no (P := P) (Q := Q) (ks := ks) (by rw [HOk.out]; rfl))
      go_wp2_with (refine wpList_store_mid rfl 52 (.tmp 6) (.tmp 23) rfl (w.heap.size + 1 + 1) 0 (pl zT).toArray rfl rfl (blk_there KR.out (by simp [HLZ.out])) HSZ.out HOZ.out ?_)
      have KW := Lib.hid (splice_all (X := pl zT) (Z := pl zT) rfl ▸ blk_setCells (pl zT) KR.out (by omega))
      refine fin (fun W => Blk W (w.heap.size + 1 + 1) 52 (pl zT).toArray ∧ Below w.heap.size w W) ⟨KW.out, below_setCells _ HB.out (by omega)⟩ ?_
      rintro W ⟨kr, hb⟩
      have hl := run_loadVar_mid W (w.heap.size + 1 + 1) 0 52 (pl zT) _ (blk_whole kr) Tryz.underlying52 rfl (pl_size zT)
      exact bodyPost_ret (v := .tuple #[.agg (pl zT).toArray, .int .i64 1]) (results_cell2 Tryz.results164 rfl rfl hl) rfl ⟨by rw [HNo.out.1, HNo.out.2], hb⟩
    | true =>
      have cq : w2.cell? ⟨w.heap.size + 1, 0, none⟩ = some (.int .i64 Q.1) := KQ.out.cell 0
      have zq := KQ.out.lt
      go_wp2_with fail
      refine (phas_b H3.out _ _ _ _ HRow.out).mono ?_
      rintro e w3 ⟨rfl, rfl⟩
      clear cq zq
      cases b3 with
      | false =>
        have HNo := Lib.hid (with_no (P := P) (Q := Q) (ks := ks) (by rw [HOk.out]; rfl))
        go_wp2_with (refine wpList_store_mid rfl 52 (.tmp 6) (.tmp 23) rfl (w.heap.size + 1 + 1) 0 (pl zT).toArray rfl rfl (blk_there KR.out (by simp [HLZ.out])) HSZ.out HOZ.out ?_)
        have KW := Lib.hid (splice_all (X := pl zT) (Z := pl zT) rfl ▸ blk_setCells (pl zT) KR.out (by omega))
        refine fin (fun W => Blk W (w.heap.size + 1 + 1) 52 (pl zT).toArray ∧ Below w.heap.size w W) ⟨KW.out, below_setCells _ HB.out (by omega)⟩ ?_
        rintro W ⟨kr, hb⟩
        have hl := run_loadVar_mid W (w.heap.size + 1 + 1) 0 52 (pl zT) _ (blk_whole kr) Tryz.underlying52 rfl (pl_size zT)
        exact bodyPost_ret (v := .tuple #[.agg (pl zT).toArray, .int .i64 1]) (results_cell2 Tryz.results164 rfl rfl hl) rfl ⟨by rw [HNo.out.1, HNo.out.2], hb⟩
      | true =>
        have HYes := Lib.hid (with_yes (P := P) (Q := Q) (ks := ks) (by rw [HOk.out]; rfl))
        go_wp2_with (first | refine wpList_load_mid rfl 52 (.tmp 3) rfl w.heap.size 0 rfl (pl P) _ (blk_whole KP.out) Tryz.underlying52 rfl HSzP.out ?_ | refine wpList_load_mid rfl 52 (.tmp 4) rfl (w.heap.size + 1) 0 rfl (pl Q) _ (blk_whole KQ.out) Tryz.underlying52 rfl HSzQ.out ?_)
        refine (lay_any P Q _ _ _ ks _ (right_bound H1.out) (hasAll_ok H3.out) HRow.out).mono ?_
        rintro e w4 ⟨rfl, k4⟩
        replace KP := Lib.hid (KP.out.keep k4)
        replace KQ := Lib.hid (KQ.out.keep k4)
        replace KR := Lib.hid (KR.out.keep k4)
        replace HB := Lib.hid (bthen HB.out k4)
        clear k4 HRow
        obtain ⟨R, hR⟩ : ∃ R, R = withT P Q ks := ⟨_, rfl⟩
        rw [← hR] at HYes
        rw [← hR]
        clear hR
        have HS5 := Lib.hid (splice_all (X := pl R) (Z := pl zT) rfl ▸ blk_setCells (pl R) KR.out (by simp [pl_len]))
        go_wp2_with (refine wpList_store_mid rfl 52 (.tmp 6) (.tmp 27) rfl (w.heap.size + 1 + 1) 0 (pl R).toArray rfl rfl (blk_there KR.out (by simp [pl_len])) (pl_size' _) (pl_one _) ?_)
        refine fin (fun W => Blk W (w.heap.size + 1 + 1) 52 (pl R).toArray ∧ Below w.heap.size w W) ⟨HS5.out, below_setCells _ HB.out (by omega)⟩ ?_
        rintro W ⟨kr, hb⟩
        have hl := run_loadVar_mid W (w.heap.size + 1 + 1) 0 52 (pl R) _ (blk_whole kr) Tryz.underlying52 rfl (pl_size R)
        exact bodyPost_ret (v := .tuple #[.agg (pl R).toArray, .int .i64 0]) (results_cell2 Tryz.results164 rfl rfl hl) rfl ⟨by rw [HYes.out.1, HYes.out.2], hb⟩

def woutP (P : PT) (ks : List Int) : PT := pickT (bits .andNot .i64 P.1 (ksS ks)) P
def woutPV (P : PT) (ks : List Int) : PT := if woutOk P ks then woutP P ks else zT
set_option maxHeartbeats 4000000 in
set_option maxRecDepth 100000 in
theorem pwout_any (P : PT) (a : Option Addr) (len cap : Nat) (ks : List Int) (w : World) (row : Row w a len ks) :
    Calls Tryz.prog 166 #[.agg (pl P).toArray, .slice a len cap] w fun e w' => e = .returned (.tuple #[.agg (pl (woutPV P ks)).toArray, .int .i64 (woutE P ks)]) ∧ Below w.heap.size w w' := by
  have HRow := Lib.hid row
  clear row
  obtain ⟨b1, h1⟩ : ∃ b, rightT P = b := ⟨_, rfl⟩
  obtain ⟨b2, h2⟩ : ∃ b, ksOk ks = b := ⟨_, rfl⟩
  have H1 := Lib.hid h1
  have HOk : Hid (woutOk P ks = (b1 && b2)) := Lib.hid (by unfold woutOk; rw [h1, h2])
  have HKs : Hid (ksV ks = (if b2 then ksS ks else 0) ∧ ksE ks = (if b2 then 0 else 1)) := Lib.hid (by unfold ksV ksE; rw [h2]; exact ⟨rfl, rfl⟩)
  clear h1 h2
  have HSZ := Lib.hid (pl_size' zT)
  have HOZ := Lib.hid (pl_one zT)
  have HLZ := Lib.hid (pl_len zT)
  have HSzP := Lib.hid (pl_size P)
  have KP := Lib.hid ((Blk.new w 52 (pl P).toArray).alloc (.cells (pl zT).toArray 52))
  have KR := Lib.hid (blkAt (Blk.new (w.alloc (.cells (pl P).toArray 52)) 52 (pl zT).toArray) (g' := w.heap.size + 1) (by simp))
  have HB := Lib.hid (balloc (alloc_below w (.cells (pl P).toArray 52)) (.cells (pl zT).toArray 52))
  replace HRow := Lib.hid (row_keep HRow.out HB.out)
  go_enter Tryz.func166, Tryz.ntmps166
  go_wp2_with fail
  refine (pof_any _ _ _ ks _ HRow.out).mono ?_
  rintro e w1 ⟨rfl, rfl⟩
  rw [HKs.out.1, HKs.out.2]
  clear HKs
  cases b2 with
  | false =>
    have HNo : Hid (woutE P ks = 1 ∧ woutPV P ks = zT) := Lib.hid (by unfold woutE woutPV; rw [HOk.out]; cases b1 <;> exact ⟨rfl, rfl⟩)
    simp only [if_neg Bool.false_ne_true]
    go_wp2_with (refine wpList_store_mid rfl 52 (.tmp 4) (.tmp 20) rfl (w.heap.size + 1) 0 (pl zT).toArray rfl rfl (blk_there KR.out (by simp [HLZ.out])) HSZ.out HOZ.out ?_)
    have KW := Lib.hid (splice_all (X := pl zT) (Z := pl zT) rfl ▸ blk_setCells (pl zT) KR.out (by omega))
    refine fin (fun W => Blk W (w.heap.size + 1) 52 (pl zT).toArray ∧ Below w.heap.size w W) ⟨KW.out, below_setCells _ HB.out (by omega)⟩ ?_
    rintro W ⟨kr, hb⟩
    have hl := run_loadVar_mid W (w.heap.size + 1) 0 52 (pl zT) _ (blk_whole kr) Tryz.underlying52 rfl (pl_size zT)
    exact bodyPost_ret (v := .tuple #[.agg (pl zT).toArray, .int .i64 1]) (results_cell2 Tryz.results166 rfl rfl hl) rfl ⟨by rw [HNo.out.1, HNo.out.2], hb⟩
  | true =>
    simp only [if_true]
    obtain ⟨t, ht⟩ : ∃ t, t = ksS ks := ⟨_, rfl⟩
    rw [← ht]
    have HT := Lib.hid ht
    clear ht
    go_wp2_with (refine wpList_load_g (by rfl) 52 (.tmp 2) rfl w.heap.size 0 rfl (pl P) _ (blk_whole KP.out) Tryz.underlying52 rfl HSzP.out ?_)
    refine (prightT H1.out _).mono ?_
    rintro e w2 ⟨rfl, k2⟩
    replace KP := Lib.hid (KP.out.keep k2)
    replace KR := Lib.hid (KR.out.keep k2)
    replace HB := Lib.hid (bthen HB.out k2)
    clear k2 HRow
    cases b1 with
    | false =>
      have HNo : Hid (woutE P ks = 1 ∧ woutPV P ks = zT) := Lib.hid (by unfold woutE woutPV; rw [HOk.out]; exact ⟨rfl, rfl⟩)
      go_wp2_with (refine wpList_store_mid rfl 52 (.tmp 4) (.tmp 20) rfl (w.heap.size + 1) 0 (pl zT).toArray rfl rfl (blk_there KR.out (by simp [HLZ.out])) HSZ.out HOZ.out ?_)
      have KW := Lib.hid (splice_all (X := pl zT) (Z := pl zT) rfl ▸ blk_setCells (pl zT) KR.out (by omega))
      refine fin (fun W => Blk W (w.heap.size + 1) 52 (pl zT).toArray ∧ Below w.heap.size w W) ⟨KW.out, below_setCells _ HB.out (by omega)⟩ ?_
      rintro W ⟨kr, hb⟩
      have hl := run_loadVar_mid W (w.heap.size + 1) 0 52 (pl zT) _ (blk_whole kr) Tryz.underlying52 rfl (pl_size zT)
      exact bodyPost_ret (v := .tuple #[.agg (pl zT).toArray, .int .i64 1]) (results_cell2 Tryz.results166 rfl rfl hl) rfl ⟨by rw [HNo.out.1, HNo.out.2], hb⟩
    | true =>
      have HYes : Hid (woutE P ks = 0 ∧ woutPV P ks = pickT (bits .andNot .i64 P.1 t) P) := Lib.hid (by unfold woutE woutPV woutP; rw [HOk.out, HT.out]; exact ⟨rfl, rfl⟩)
      have HOn := Lib.hid (only_any P (bits .andNot .i64 P.1 t))
      obtain ⟨R, hR⟩ : ∃ R, R = pickT (bits .andNot .i64 P.1 t) P := ⟨_, rfl⟩
      rw [← hR] at HYes HOn
      clear hR
      have cp : w2.cell? ⟨w.heap.size, 0, none⟩ = some (.int .i64 P.1) := KP.out.cell 0
      have zp := KP.out.lt
      go_wp2_with (refine wpList_load_mid rfl 52 (.tmp 2) rfl w.heap.size 0 rfl (pl P) _ (blk_whole KP.out) Tryz.underlying52 rfl HSzP.out ?_)
      refine (HOn.out _).mono ?_
      rintro e w4 ⟨rfl, k4⟩
      replace KP := Lib.hid (KP.out.keep k4)
      replace KR := Lib.hid (KR.out.keep k4)
      replace HB := Lib.hid (bthen HB.out k4)
      clear k4 cp zp HOn
      have HS5 := Lib.hid (splice_all (X := pl R) (Z := pl zT) rfl ▸ blk_setCells (pl R) KR.out (by simp [pl_len]))
      go_wp2_with (refine wpList_store_mid rfl 52 (.tmp 4) (.tmp 26) rfl (w.heap.size + 1) 0 (pl R).toArray rfl rfl (blk_there KR.out (by simp [pl_len])) (pl_size' _) (pl_one _) ?_)
      refine fin (fun W => Blk W (w.heap.size + 1) 52 (pl R).toArray ∧ Below w.heap.size w W) ⟨HS5.out, below_setCells _ HB.out (by omega)⟩ ?_
      rintro W ⟨kr, hb⟩
      have hl := run_loadVar_mid W (w.heap.size + 1) 0 52 (pl R) _ (blk_whole kr) Tryz.underlying52 rfl (pl_size R)
      exact bodyPost_ret (v := .tuple #[.agg (pl R).toArray, .int .i64 0]) (results_cell2 Tryz.results166 rfl rfl hl) rfl ⟨by rw [HYes.out.1, HYes.out.2], hb⟩

theorem has3 (s : Int) : hasAll s [0, 1, 2] = decide (s % 8 = 7) := by
  unfold hasAll
  have h0 : hasB s 0 = decide (s % 2 = 1) := by rw [show hasB s 0 = hasN s 0 from has_yes (k := 0) (by omega)]; unfold hasN; simp
  have h1 : hasB s 1 = decide (s / 2 % 2 = 1) := by rw [show hasB s 1 = hasN s 1 from has_yes (k := 1) (by omega)]; unfold hasN; simp
  have h2 : hasB s 2 = decide (s / 4 % 2 = 1) := by rw [show hasB s 2 = hasN s 2 from has_yes (k := 2) (by omega)]; unfold hasN; simp
  simp only [List.all_cons, List.all_nil, h0, h1, h2, Bool.and_true]
  rw [Bool.eq_iff_iff]
  simp only [Bool.and_eq_true, decide_eq_true_eq]
  omega
def drawnT (P : PT) : Bool := rightT P && decide (P.1 % 8 = 7)
set_option maxHeartbeats 2000000 in
set_option maxRecDepth 100000 in
theorem pdrawn_any (P : PT) (w : World) :
    Calls Tryz.prog 215 #[.agg (pl P).toArray] w fun e w' => e = .returned (.bool (drawnT P)) ∧ Below w.heap.size w w' := by
  unfold drawnT
  obtain ⟨b1, h1⟩ : ∃ b, rightT P = b := ⟨_, rfl⟩
  obtain ⟨b2, h2⟩ : ∃ b, decide (P.1 % 8 = 7) = b := ⟨_, rfl⟩
  have H1 := Lib.hid h1
  have H2 := Lib.hid ((has3 P.1).trans h2)
  rw [h1, h2]
  clear h1 h2
  have KP := Lib.hid (Blk.new w 52 (pl P).toArray)
  have HSzP := Lib.hid (pl_size P)
  go_enter Tryz.func215, Tryz.ntmps215
  go_wp2_with (refine wpList_load_mid rfl 52 (.tmp 1) rfl w.heap.size 0 rfl (pl P) _ (blk_whole KP.out) Tryz.underlying52 rfl HSzP.out ?_)
  refine (prightT H1.out _).mono ?_
  rintro e w1 ⟨rfl, k1⟩
  replace KP := Lib.hid (KP.out.keep k1)
  have HB := Lib.hid (bthen (alloc_below _ _) k1)
  clear k1 H1
  cases b1 with
  | false =>
    go_wp2
    go_ret
    exact ⟨rfl, HB.out⟩
  | true =>
    have cp : w1.cell? ⟨w.heap.size, 0, none⟩ = some (.int .i64 P.1) := KP.out.cell 0
    have zp := KP.out.lt
    go_wp2_with fail
    refine (phas_b H2.out _ _ _ _ (row3 (Blk.new w1 _ _))).mono ?_
    rintro e w2 ⟨rfl, rfl⟩
    replace HB := Lib.hid (balloc HB.out (.cells #[.int .i64 0, .int .i64 1, .int .i64 2] 244))
    go_wp2
    go_ret
    exact ⟨by simp, HB.out⟩

theorem eqT_pl {P Q : PT} (h : eqT P Q = true) : pl P = pl Q := by
  obtain ⟨h1, M, m, B, p, a, c, l⟩ := P
  obtain ⟨h2, N, n, C, q, b, d, k⟩ := Q
  unfold eqT eqP eq12 eq6 at h
  simp only [Bool.and_eq_true, beq_iff_eq] at h
  obtain ⟨⟨⟨⟨⟨⟨⟨e1, ⟨⟨⟨⟨⟨⟨⟨⟨⟨⟨⟨m0, m1⟩, m2⟩, m3⟩, m4⟩, m5⟩, m6⟩, m7⟩, m8⟩, m9⟩, m10⟩, m11⟩⟩, e2⟩, ⟨⟨b0, b1⟩, b2⟩, ⟨b3, b4⟩, b5⟩, e3⟩, e4⟩, e5⟩, e6⟩ := h
  unfold pl PL
  simp only [e1, m0, m1, m2, m3, m4, m5, m6, m7, m8, m9, m10, m11, e2, b0, b1, b2, b3, b4, b5, e3, e4, e5, e6]
theorem pl_head {P Q : PT} (h : pl P = pl Q) : P.1 = Q.1 := by
  unfold pl PL at h
  simp only [List.cons.injEq, Value.int.injEq, true_and] at h
  exact h.1
theorem right_bare {P : PT} (h : rightT P = true) : pl (pickT P.1 P) = pl P := by
  rw [right_split, Bool.and_eq_true] at h
  exact eqT_pl h.2
theorem stepO_congr {P Q : PT} (h : pl P = pl Q) (k : Int) : pl (stepO P k) = pl (stepO Q k) := by
  have e : ∀ P : PT, pl (stepO P k) = layP k ((pl P).set 0 (.int .i64 (subK P.1 k))) (pl zT) := fun P => by unfold stepO; rw [← layT_pl]; rfl
  rw [e, e, h, pl_head h]
theorem woutT_congr : ∀ (ks : List Int) {P Q : PT}, pl P = pl Q → pl (woutT P ks) = pl (woutT Q ks)
  | [], _, _, h => h
  | k :: r, _, _, h => woutT_congr r (stepO_congr h k)
theorem pick_step {s k : Int} (P : PT) (hs : 0 ≤ s ∧ s ≤ 31) (hk : kOk k = true) : stepO (pickT s P) k = pickT (subK s k) P := by
  have hb := subK_bound (k := k) hs
  have e1 : s % 32 = s := by omega
  have e2 : subK s k % 32 = subK s k := by omega
  have f0 := sub_has hs hk (j := 0) (by omega)
  have f1 := sub_has hs hk (j := 1) (by omega)
  have f2 := sub_has hs hk (j := 2) (by omega)
  have f3 := sub_has hs hk (j := 3) (by omega)
  unfold pickT
  rw [f0, f1, f2, f3, e2]
  unfold stepO
  rw [e1]
  clear f0 f1 f2 f3 e1 e2 hb hs
  generalize hasN s 0 = a0
  generalize hasN s 1 = a1
  generalize hasN s 2 = a2
  generalize hasN s 3 = a3
  rcases kOk_cases hk with rfl | rfl | rfl | rfl | rfl
  · cases a0 <;> cases a1 <;> cases a2 <;> cases a3 <;> rfl
  · cases a0 <;> cases a1 <;> cases a2 <;> cases a3 <;> rfl
  · cases a0 <;> cases a1 <;> cases a2 <;> cases a3 <;> rfl
  · cases a0 <;> cases a1 <;> cases a2 <;> cases a3 <;> rfl
  · cases a0 <;> cases a1 <;> cases a2 <;> cases a3 <;> rfl
theorem pick_wout : ∀ (ks : List Int) (s : Int) (P : PT), 0 ≤ s ∧ s ≤ 31 → ksOk ks = true → woutT (pickT s P) ks = pickT (ks.foldl subK s) P
  | [], _, _, _, _ => rfl
  | k :: r, s, P, hs, h => by
    unfold ksOk at h
    rw [List.all_cons, Bool.and_eq_true] at h
    have : woutT (pickT s P) (k :: r) = woutT (stepO (pickT s P) k) r := rfl
    rw [this, pick_step P hs h.1, pick_wout r _ P (subK_bound hs) h.2]
    rfl
theorem sub_not {s : Int} {ks : List Int} (hs : 0 ≤ s ∧ s ≤ 31) (h : ksOk ks = true) : ks.foldl subK s = bits .andNot .i64 s (ksS ks) :=
  set_ext (sub_bound ks s hs) (not_bound hs (ksS_bound h)) (fun j hj => by rw [fold_sub ks s hs h hj, not_has hs (ksS_bound h) hj, ksS_has h hj])
theorem wout_pick {P : PT} {ks : List Int} (hr : rightT P = true) (h : ksOk ks = true) : pl (woutT P ks) = pl (pickT (ks.foldl subK P.1) P) := by
  rw [← woutT_congr ks (right_bare hr), pick_wout ks P.1 P (right_bound hr) h]
theorem wout_same (P : PT) (ks : List Int) : pl (woutPV P ks) = pl (woutV P ks) := by
  unfold woutPV woutV
  by_cases c : woutOk P ks = true
  · rw [if_pos c, if_pos c]
    unfold woutOk at c
    rw [Bool.and_eq_true] at c
    rw [wout_pick c.1 c.2, sub_not (right_bound c.1) c.2]
    rfl
  · rw [if_neg c, if_neg c]
theorem pwoutT (P : PT) (a : Option Addr) (len cap : Nat) (ks : List Int) (w : World) (row : Row w a len ks) :
    Calls Tryz.prog 166 #[.agg (pl P).toArray, .slice a len cap] w fun e w' => e = .returned (.tuple #[.agg (pl (woutV P ks)).toArray, .int .i64 (woutE P ks)]) ∧ Below w.heap.size w w' := by
  have := pwout_any P a len cap ks w row
  rw [wout_same] at this
  exact this

theorem right_step {P Q : PT} {k : Int} (hp : rightT P = true) (hq : rightT Q = true) (hk : hasB Q.1 k = true) : rightT (stepW Q P k) = true := by
  have hb := right_bound hp
  have hok := has_kOk hk
  have hb2 := addK_bound hb hok
  have f0 := add_has hb hok (j := 0) (by omega)
  have f1 := add_has hb hok (j := 1) (by omega)
  have f2 := add_has hb hok (j := 2) (by omega)
  have f3 := add_has hb hok (j := 3) (by omega)
  have f4 := add_has hb hok (j := 4) (by omega)
  obtain ⟨h, M, m, B, p, a, c, l⟩ := P
  obtain ⟨h2, N, n, C, q, b, d, k2⟩ := Q
  unfold rightT rightP kindsB kindB restB at hp hq
  simp only [Bool.and_eq_true] at hp hq
  obtain ⟨⟨_, ⟨⟨⟨k0, k1⟩, k2⟩, k3⟩, k4⟩, ⟨⟨⟨⟨r0, r1⟩, r2⟩, r3⟩, r4⟩, r5⟩ := hp
  obtain ⟨⟨_, ⟨⟨⟨_, _⟩, _⟩, _⟩, _⟩, ⟨⟨⟨⟨q0, q1⟩, q2⟩, q3⟩, q4⟩, q5⟩ := hq
  unfold rightT rightP kindsB kindB restB stepW
  simp only [Bool.and_eq_true, decide_eq_true hb2.1, decide_eq_true hb2.2]
  clear hb2 hb hk
  rcases kOk_cases hok with rfl | rfl | rfl | rfl | rfl
  · exact ⟨⟨⟨trivial, trivial⟩, ⟨⟨⟨by rw [f0]; simp, by rw [f1]; simpa [layT, zkB] using k1⟩, by rw [f2]; simpa [layT, zkB] using k2⟩, by rw [f3]; simpa [layT, zkB] using k3⟩, by simp [zkB]⟩, ⟨⟨⟨⟨q0, r1⟩, r2⟩, r3⟩, r4⟩, r5⟩
  · exact ⟨⟨⟨trivial, trivial⟩, ⟨⟨⟨by rw [f0]; simpa [layT, zkB] using k0, by rw [f1]; simp⟩, by rw [f2]; simpa [layT, zkB] using k2⟩, by rw [f3]; simpa [layT, zkB] using k3⟩, by simp [zkB]⟩, ⟨⟨⟨⟨r0, q1⟩, q2⟩, r3⟩, r4⟩, r5⟩
  · exact ⟨⟨⟨trivial, trivial⟩, ⟨⟨⟨by rw [f0]; simpa [layT, zkB] using k0, by rw [f1]; simpa [layT, zkB] using k1⟩, by rw [f2]; simp⟩, by rw [f3]; simpa [layT, zkB] using k3⟩, by simp [zkB]⟩, ⟨⟨⟨⟨r0, r1⟩, r2⟩, q3⟩, q4⟩, r5⟩
  · exact ⟨⟨⟨trivial, trivial⟩, ⟨⟨⟨by rw [f0]; simpa [layT, zkB] using k0, by rw [f1]; simpa [layT, zkB] using k1⟩, by rw [f2]; simpa [layT, zkB] using k2⟩, by rw [f3]; simp⟩, by simp [zkB]⟩, ⟨⟨⟨⟨r0, r1⟩, r2⟩, r3⟩, r4⟩, q5⟩
  · exact ⟨⟨⟨trivial, trivial⟩, ⟨⟨⟨by rw [f0]; simpa [layT, zkB] using k0, by rw [f1]; simpa [layT, zkB] using k1⟩, by rw [f2]; simpa [layT, zkB] using k2⟩, by rw [f3]; simpa [layT, zkB] using k3⟩, by rw [f4]; simp⟩, ⟨⟨⟨⟨r0, r1⟩, r2⟩, r3⟩, r4⟩, r5⟩
theorem right_with : ∀ (ks : List Int) {P Q : PT}, rightT P = true → rightT Q = true → hasAll Q.1 ks = true → rightT (withT P Q ks) = true
  | [], _, _, hp, _, _ => hp
  | k :: r, P, Q, hp, hq, h => by
    unfold hasAll at h
    rw [List.all_cons, Bool.and_eq_true] at h
    exact right_with r (right_step hp hq h.1) hq h.2
theorem okM_z : okM zI = true := by decide
theorem okBox_z : okBox zI = true := by decide
theorem right_out {P : PT} {k : Int} (hp : rightT P = true) (hok : kOk k = true) : rightT (stepO P k) = true := by
  have hb := right_bound hp
  have hb2 := subK_bound (k := k) hb
  have f0 := sub_has hb hok (j := 0) (by omega)
  have f1 := sub_has hb hok (j := 1) (by omega)
  have f2 := sub_has hb hok (j := 2) (by omega)
  have f3 := sub_has hb hok (j := 3) (by omega)
  have f4 := sub_has hb hok (j := 4) (by omega)
  obtain ⟨h, M, m, B, p, a, c, l⟩ := P
  unfold rightT rightP kindsB kindB restB at hp
  simp only [Bool.and_eq_true] at hp
  obtain ⟨⟨_, ⟨⟨⟨k0, k1⟩, k2⟩, k3⟩, k4⟩, ⟨⟨⟨⟨r0, r1⟩, r2⟩, r3⟩, r4⟩, r5⟩ := hp
  have z12 := eq12_self zI
  have z6 := eq6_self zI
  have zM := okM_z
  have zB := okBox_z
  have hd := layT_has k (subK h k, M, m, B, p, a, c, l) zT
  unfold rightT rightP kindsB kindB restB stepO
  rw [hd]
  simp only [Bool.and_eq_true, decide_eq_true hb2.1, decide_eq_true hb2.2]
  clear hb2 hb hd
  rcases kOk_cases hok with rfl | rfl | rfl | rfl | rfl
  · exact ⟨⟨⟨trivial, trivial⟩, ⟨⟨⟨by simp [layT, zT, zkB, z12], by rw [f1]; simpa [layT, zkB] using k1⟩, by rw [f2]; simpa [layT, zkB] using k2⟩, by rw [f3]; simpa [layT, zkB] using k3⟩, by simp [zkB]⟩, ⟨⟨⟨⟨zM, r1⟩, r2⟩, r3⟩, r4⟩, r5⟩
  · exact ⟨⟨⟨trivial, trivial⟩, ⟨⟨⟨by rw [f0]; simpa [layT, zkB] using k0, by simp [layT, zT, zkB, z6]⟩, by rw [f2]; simpa [layT, zkB] using k2⟩, by rw [f3]; simpa [layT, zkB] using k3⟩, by simp [zkB]⟩, ⟨⟨⟨⟨r0, rfl⟩, zB⟩, r3⟩, r4⟩, r5⟩
  · exact ⟨⟨⟨trivial, trivial⟩, ⟨⟨⟨by rw [f0]; simpa [layT, zkB] using k0, by rw [f1]; simpa [layT, zkB] using k1⟩, by simp [layT, zT, zkB]⟩, by rw [f3]; simpa [layT, zkB] using k3⟩, by simp [zkB]⟩, ⟨⟨⟨⟨r0, r1⟩, r2⟩, rfl⟩, rfl⟩, r5⟩
  · exact ⟨⟨⟨trivial, trivial⟩, ⟨⟨⟨by rw [f0]; simpa [layT, zkB] using k0, by rw [f1]; simpa [layT, zkB] using k1⟩, by rw [f2]; simpa [layT, zkB] using k2⟩, by simp [layT, zT, zkB]⟩, by simp [zkB]⟩, ⟨⟨⟨⟨r0, r1⟩, r2⟩, r3⟩, r4⟩, rfl⟩
  · exact ⟨⟨⟨trivial, trivial⟩, ⟨⟨⟨by rw [f0]; simpa [layT, zkB] using k0, by rw [f1]; simpa [layT, zkB] using k1⟩, by rw [f2]; simpa [layT, zkB] using k2⟩, by rw [f3]; simpa [layT, zkB] using k3⟩, by simp [zkB]⟩, ⟨⟨⟨⟨r0, r1⟩, r2⟩, r3⟩, r4⟩, r5⟩
theorem right_wout : ∀ (ks : List Int) {P : PT}, rightT P = true → ksOk ks = true → rightT (woutT P ks) = true
  | [], _, hp, _ => hp
  | k :: r, P, hp, h => by
    unfold ksOk at h
    rw [List.all_cons, Bool.and_eq_true] at h
    exact right_wout r (right_out hp h.1) h.2

def q6 : PT := (4, zI, 0, zI, 3, 0, true, 0)
def r6 : PT := (0, zI, 0, zI, 1, 0, false, 0)
end Go.Proofs.YthhfcedhbfandaaGreat
