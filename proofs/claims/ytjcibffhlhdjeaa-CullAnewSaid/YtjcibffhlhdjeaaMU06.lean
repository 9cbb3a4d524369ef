/-
  7 texts in one file, each with its own heading.
-/
import Derived.Test.YtjcibffhlhdjeaaMU05
import Derived.Test.YtjcibffhlhdjeaaMU03
/-
  What package shape's ends answers.
-/
namespace Go.Proofs.Ytjcibffhlhdjeaa
open Go.RowKit

theorem fitE_six {x : Int} (h : fitE x ≠ 0) : fitE x = 6 := by
  unfold fitE at h ⊢
  by_cases c : okB x = true
  · rw [if_pos c] at h; exact absurd rfl h
  · rw [if_neg c]
theorem fitV_ok (x : Int) : okB (fitV x) = true := by
  unfold fitV
  by_cases c : okB x = true
  · rw [if_pos c]; exact c
  · rw [if_neg c]; decide
theorem mulE_six {x y : Int} (hx : okB x = true) (hy : okB y = true) (h : mulE x y ≠ 0) : mulE x y = 6 := by
  have ho : (okB x && okB y) = true := by rw [hx, hy]; rfl
  rw [(mul_yes ho).2] at h ⊢
  exact fitE_six h
theorem mulV_ok (x y : Int) : okB (mulV x y) = true := by
  by_cases ho : (okB x && okB y) = true
  · rw [(mul_yes ho).1]; exact fitV_ok _
  · rw [(mul_no (by simpa using ho)).1]; decide
theorem first3_ne {e : Nat → Int} (h : first3 (e 0) (e 1) (e 2) ≠ 0) : ∃ k, k < 3 ∧ e k ≠ 0 ∧ first3 (e 0) (e 1) (e 2) = e k := by
  unfold first3 at h ⊢
  by_cases h0 : e 0 = 0
  · rw [if_pos h0] at h ⊢
    by_cases h1 : e 1 = 0
    · rw [if_pos h1] at h ⊢
      exact ⟨2, by omega, h, rfl⟩
    · rw [if_neg h1]; exact ⟨1, by omega, h1, rfl⟩
  · rw [if_neg h0]; exact ⟨0, by omega, h0, rfl⟩
theorem first3_zero {e : Nat → Int} (h : first3 (e 0) (e 1) (e 2) = 0) : ∀ k, k < 3 → e k = 0 := by
  unfold first3 at h
  by_cases h0 : e 0 = 0
  · rw [if_pos h0] at h
    by_cases h1 : e 1 = 0
    · rw [if_pos h1] at h
      intro k hk
      obtain rfl | rfl | rfl : k = 0 ∨ k = 1 ∨ k = 2 := by omega
      · exact h0
      · exact h1
      · exact h
    · rw [if_neg h1] at h; exact absurd h h1
  · rw [if_neg h0] at h; exact absurd h h0
theorem okPlane_at {P : Nat → Int} (h : okPlane P = true) {k : Nat} (hk : k < 4) : okB (P k) = true := by
  unfold okPlane rightB at h
  have h4 : okB (P 0) = true ∧ okB (P 1) = true ∧ okB (P 2) = true ∧ okB (P 3) = true := by simpa using h
  obtain rfl | rfl | rfl | rfl : k = 0 ∨ k = 1 ∨ k = 2 ∨ k = 3 := by omega
  · exact h4.1
  · exact h4.2.1
  · exact h4.2.2.1
  · exact h4.2.2.2
def upB (B : Nat → Int) (j : Nat) : Int := B (3 + j)

theorem lo_bad {P B : Nat → Int} {t : Int} (h : okPlane P = true) (h' : okBox B = true) (he : prE P B ≠ 0) : prE P B = 6 ∧ enE P B t = 6 := by
  obtain ⟨k, hk, hn, hq⟩ := first3_ne (e := prPE P B) he
  refine ⟨hq.trans (mulE_six (okPlane_at h (by omega)) (okBox_at h' (by omega)) hn), enE_bad (k := k) ?_ hk⟩
  unfold enBad
  have : (mulE (P k) (B k) != 0) = true := by simpa using (show mulE (P k) (B k) ≠ 0 from hn)
  rw [this]; rfl
theorem hi_bad {P B : Nat → Int} {t : Int} (h : okPlane P = true) (h' : okBox B = true) (he : prE P (upB B) ≠ 0) : prE P (upB B) = 6 ∧ enE P B t = 6 := by
  obtain ⟨k, hk, hn, hq⟩ := first3_ne (e := prPE P (upB B)) he
  refine ⟨hq.trans (mulE_six (okPlane_at h (by omega)) (okBox_at h' (by omega)) hn), enE_bad (k := k) ?_ hk⟩
  unfold enBad
  have : (mulE (P k) (B (3 + k)) != 0) = true := by simpa using (show mulE (P k) (B (3 + k)) ≠ 0 from hn)
  rw [this, Bool.or_true]
theorem bet_less (a b : Int) : bet lessB a b = min a b := by
  unfold bet lessB
  by_cases c : b < a
  · rw [if_pos (by simpa using c)]; omega
  · rw [if_neg (by simpa using c)]; omega
theorem bet_more (a b : Int) : bet moreB a b = max a b := by
  unfold bet moreB
  by_cases c : b > a
  · rw [if_pos (by simpa using c)]; omega
  · rw [if_neg (by simpa using c)]; omega
theorem add_turn (x y z t : Int) : addV [x, y, z, t] = addV [t, x, y, z] ∧ addE [x, y, z, t] = addE [t, x, y, z] := by
  have hs : [x, y, z, t].sum = [t, x, y, z].sum := by simp only [List.sum_cons, List.sum_nil]; omega
  have hr : addOk [x, y, z, t] = addOk [t, x, y, z] := by
    unfold addOk rightB
    simp only [List.all_cons, List.all_nil, List.length_cons, List.length_nil]
    cases okB x <;> cases okB y <;> cases okB z <;> cases okB t <;> rfl
  unfold addV addE
  rw [hs, hr]
  exact ⟨rfl, rfl⟩
theorem add_six {x y z t : Int} (hx : okB x = true) (hy : okB y = true) (hz : okB z = true) (ht : okB t = true) (h : addE [x, y, z, t] ≠ 0) : addE [x, y, z, t] = 6 := by
  have ho : addOk [x, y, z, t] = true := addOk_yes rfl (by simp) (by unfold rightB; simp [hx, hy, hz, ht])
  rw [addE_yes ho] at h ⊢
  exact fitE_six h
theorem okB_min {x y : Int} (hx : okB x = true) (hy : okB y = true) : okB (min x y) = true := by
  obtain ⟨a1, a2⟩ := okB_iff.1 hx
  obtain ⟨b1, b2⟩ := okB_iff.1 hy
  exact okB_yes (by omega) (by omega)
theorem okB_max {x y : Int} (hx : okB x = true) (hy : okB y = true) : okB (max x y) = true := by
  obtain ⟨a1, a2⟩ := okB_iff.1 hx
  obtain ⟨b1, b2⟩ := okB_iff.1 hy
  exact okB_yes (by omega) (by omega)
theorem en_good {P B : Nat → Int} {t : Int} (ht : okB t = true) (h1 : prE P B = 0) (h2 : prE P (upB B) = 0) :
    ∃ l0 l1 l2 g0 g1 g2, pk lessB [(prV P B 0, prV P B 1, prV P B 2), (prV P (upB B) 0, prV P (upB B) 1, prV P (upB B) 2)] = (l0, l1, l2) ∧ pk moreB [(prV P B 0, prV P B 1, prV P B 2), (prV P (upB B) 0, prV P (upB B) 1, prV P (upB B) 2)] = (g0, g1, g2) ∧
      (addE [l0, l1, l2, t] ≠ 0 → addE [l0, l1, l2, t] = 6 ∧ enE P B t = 6) ∧ (addE [g0, g1, g2, t] ≠ 0 → addE [g0, g1, g2, t] = 6 ∧ enE P B t = 6) ∧
      (addE [l0, l1, l2, t] = 0 → addE [g0, g1, g2, t] = 0 → enE P B t = 0 ∧ enLo P B t = addV [l0, l1, l2, t] ∧ enHi P B t = addV [g0, g1, g2, t]) := by
  have hb : enBad P B 0 = false ∧ enBad P B 1 = false ∧ enBad P B 2 = false := by
    have a := first3_zero (e := prPE P B) h1
    have b := first3_zero (e := prPE P (upB B)) h2
    have c : ∀ k, k < 3 → enBad P B k = false := fun k hk => by
      unfold enBad
      rw [show mulE (P k) (B k) = 0 from a k hk, show mulE (P k) (B (3 + k)) = 0 from b k hk]; rfl
    exact ⟨c 0 (by omega), c 1 (by omega), c 2 (by omega)⟩
  have v1 : ∀ k, prV P B k = enX P B k := fun k => by unfold prV; rw [h1]; rfl
  have v2 : ∀ k, prV P (upB B) k = enY P B k := fun k => by unfold prV; rw [h2]; rfl
  have el : enLoL P B t = [t, min (enX P B 0) (enY P B 0), min (enX P B 1) (enY P B 1), min (enX P B 2) (enY P B 2)] := rfl
  have eh : enHiL P B t = [t, max (enX P B 0) (enY P B 0), max (enX P B 1) (enY P B 1), max (enX P B 2) (enY P B 2)] := rfl
  have ee : enE P B t = if (addE (enLoL P B t) != 0) || (addE (enHiL P B t) != 0) then 6 else 0 := by unfold enE; rw [hb.1, hb.2.1, hb.2.2]; rfl
  have kx : ∀ k, okB (enX P B k) = true := fun k => mulV_ok _ _
  have ky : ∀ k, okB (enY P B k) = true := fun k => mulV_ok _ _
  have tl := add_turn (min (enX P B 0) (enY P B 0)) (min (enX P B 1) (enY P B 1)) (min (enX P B 2) (enY P B 2)) t
  have th := add_turn (max (enX P B 0) (enY P B 0)) (max (enX P B 1) (enY P B 1)) (max (enX P B 2) (enY P B 2)) t
  rw [← el] at tl
  rw [← eh] at th
  refine ⟨min (enX P B 0) (enY P B 0), min (enX P B 1) (enY P B 1), min (enX P B 2) (enY P B 2), max (enX P B 0) (enY P B 0), max (enX P B 1) (enY P B 1), max (enX P B 2) (enY P B 2), ?_, ?_, ?_, ?_, ?_⟩
  · rw [v1, v1, v1, v2, v2, v2, ← bet_less, ← bet_less, ← bet_less]; rfl
  · rw [v1, v1, v1, v2, v2, v2, ← bet_more, ← bet_more, ← bet_more]; rfl
  · intro h
    refine ⟨add_six (okB_min (kx 0) (ky 0)) (okB_min (kx 1) (ky 1)) (okB_min (kx 2) (ky 2)) ht h, ?_⟩
    rw [tl.2] at h
    rw [ee, show (addE (enLoL P B t) != 0) = true by simpa using h]; rfl
  · intro h
    refine ⟨add_six (okB_max (kx 0) (ky 0)) (okB_max (kx 1) (ky 1)) (okB_max (kx 2) (ky 2)) ht h, ?_⟩
    rw [th.2] at h
    rw [ee, show (addE (enHiL P B t) != 0) = true by simpa using h, Bool.or_true]; rfl
  · intro a b
    have e0 : enE P B t = 0 := by
      rw [tl.2] at a
      rw [th.2] at b
      rw [ee, a, b]; rfl
    refine ⟨e0, ?_, ?_⟩
    · unfold enLo; rw [e0, tl.1]; rfl
    · unfold enHi; rw [e0, th.1]; rfl

theorem pick_xyz_l (a : Option Addr) (vs : List V3) (w : World) (p0 p1 p2 : Int) (hp : pk lessB vs = (p0, p1, p2)) (row : VRow w a 2 vs) :
    Calls Try.prog 80 #[.slice a 2 2] w fun e w' => e = .returned (.agg #[.int .i64 p0, .int .i64 p1, .int .i64 p2]) ∧ Below w.heap.size w w' :=
  (least_any a 2 2 vs w (by omega) (by omega) row).mono fun _ _ ⟨he, hw⟩ => ⟨by rw [he, hp]; rfl, hw⟩
theorem pick_xyz_g (a : Option Addr) (vs : List V3) (w : World) (p0 p1 p2 : Int) (hp : pk moreB vs = (p0, p1, p2)) (row : VRow w a 2 vs) :
    Calls Try.prog 83 #[.slice a 2 2] w fun e w' => e = .returned (.agg #[.int .i64 p0, .int .i64 p1, .int .i64 p2]) ∧ Below w.heap.size w w' :=
  (greatest_any a 2 2 vs w (by omega) (by omega) row).mono fun _ _ ⟨he, hw⟩ => ⟨by rw [he, hp]; rfl, hw⟩

set_option maxHeartbeats 2000000 in
theorem ends_any (P B : Nat → Int) (w : World) (h : okPlane P = true) (h' : okBox B = true) :
    Calls Try.prog 70 #[.agg #[.int .i64 (P 0), .int .i64 (P 1), .int .i64 (P 2), .int .i64 (P 3)], .agg #[.int .i64 (B 0), .int .i64 (B 1), .int .i64 (B 2), .int .i64 (B 3), .int .i64 (B 4), .int .i64 (B 5)]] w fun e w' => e = .returned (.tuple #[.int .i64 (enLo P B (P 3)), .int .i64 (enHi P B (P 3)), .int .i64 (enE P B (P 3))]) ∧ Below w.heap.size w w' := by
  have HO := Lib.hid (And.intro h h')
  clear h h'
  obtain ⟨a0, a1, a2, y1, hc1⟩ : ∃ a0 a1 a2 y, prV P B 0 = a0 ∧ prV P B 1 = a1 ∧ prV P B 2 = a2 ∧ prE P B = y := ⟨_, _, _, _, rfl, rfl, rfl, rfl⟩
  obtain ⟨b0, b1, b2, y2, hc2⟩ : ∃ a0 a1 a2 y, prV P (upB B) 0 = a0 ∧ prV P (upB B) 1 = a1 ∧ prV P (upB B) 2 = a2 ∧ prE P (upB B) = y := ⟨_, _, _, _, rfl, rfl, rfl, rfl⟩
  have H1 : Hid (∀ w', Calls Try.prog 81 #[.agg #[.int .i64 (P 0), .int .i64 (P 1), .int .i64 (P 2)], .agg #[.int .i64 (B 0), .int .i64 (B 1), .int .i64 (B 2)]] w' fun e w'' => e = .returned (.tuple #[.agg #[.int .i64 a0, .int .i64 a1, .int .i64 a2], .int .i64 y1]) ∧ Below w'.heap.size w' w'') :=
    Lib.hid (fun w' => (products_any P B w').mono fun _ _ ⟨he, hw⟩ => ⟨by rw [he, hc1.1, hc1.2.1, hc1.2.2.1, hc1.2.2.2], hw⟩)
  have H2 : Hid (∀ w', Calls Try.prog 81 #[.agg #[.int .i64 (P 0), .int .i64 (P 1), .int .i64 (P 2)], .agg #[.int .i64 (B 3), .int .i64 (B 4), .int .i64 (B 5)]] w' fun e w'' => e = .returned (.tuple #[.agg #[.int .i64 b0, .int .i64 b1, .int .i64 b2], .int .i64 y2]) ∧ Below w'.heap.size w' w'') :=
    Lib.hid (fun w' => (products_any P (upB B) w').mono fun _ _ ⟨he, hw⟩ => ⟨by rw [he, hc2.1, hc2.2.1, hc2.2.2.1, hc2.2.2.2], hw⟩)
  have HC := Lib.hid (And.intro hc1 hc2)
  clear hc1 hc2
  by_cases he1 : y1 = 0
  · have hy1 : (y1 != 0) = false := by rw [he1]; rfl
    by_cases he2 : y2 = 0
    · have hy2 : (y2 != 0) = false := by rw [he2]; rfl
      obtain ⟨l0, l1, l2, g0, g1, g2, hl, hg, hx1, hx2, hx3⟩ := en_good (P := P) (B := B) (okPlane_at HO.out.1 (k := 3) (by omega)) (by rw [HC.out.1.2.2.2]; exact he1) (by rw [HC.out.2.2.2.2]; exact he2)
      rw [HC.out.1.1, HC.out.1.2.1, HC.out.1.2.2.1, HC.out.2.1, HC.out.2.2.1, HC.out.2.2.2.1] at hl hg
      have HL := Lib.hid hl
      have HG := Lib.hid hg
      obtain ⟨u, f1, hu, hf1⟩ : ∃ u f, u = addV [l0, l1, l2, P 3] ∧ f = addE [l0, l1, l2, P 3] := ⟨_, _, rfl, rfl⟩
      obtain ⟨v, f2, hv, hf2⟩ : ∃ u f, u = addV [g0, g1, g2, P 3] ∧ f = addE [g0, g1, g2, P 3] := ⟨_, _, rfl, rfl⟩
      rw [← hf1] at hx1 hx3
      rw [← hf2] at hx2 hx3
      rw [← hu, ← hv] at hx3
      have T1 : Hid (∀ w', Calls Try.prog 82 #[.agg #[.int .i64 l0, .int .i64 l1, .int .i64 l2], .int .i64 (P 3)] w' fun e w'' => e = .returned (.tuple #[.int .i64 u, .int .i64 f1]) ∧ Below w'.heap.size w' w'') :=
        Lib.hid (fun w' => (total_any l0 l1 l2 (P 3) w').mono fun _ _ ⟨he, hw⟩ => ⟨by rw [he, hu, hf1], hw⟩)
      have T2 : Hid (∀ w', Calls Try.prog 82 #[.agg #[.int .i64 g0, .int .i64 g1, .int .i64 g2], .int .i64 (P 3)] w' fun e w'' => e = .returned (.tuple #[.int .i64 v, .int .i64 f2]) ∧ Below w'.heap.size w' w'') :=
        Lib.hid (fun w' => (total_any g0 g1 g2 (P 3) w').mono fun _ _ ⟨he, hw⟩ => ⟨by rw [he, hv, hf2], hw⟩)
      have HX := Lib.hid (And.intro hx1 (And.intro hx2 hx3))
      clear hl hg hx1 hx2 hx3 hu hf1 hv hf2 he1 he2
      go_enter Try.func70, Try.ntmps70
      go_wp2_with fail
      refine (H1.out _).mono ?_
      rintro e w1 ⟨rfl, b1⟩
      have KP := Lib.hid (((Blk.new w 40 _).alloc _).keep b1)
      have KB := Lib.hid (blkAt ((Blk.new (w.alloc _) 48 _).keep b1) (g' := w.heap.size + 1) (by simp))
      have B1 := Lib.hid (bthen (balloc (alloc_below _ _) _) b1)
      clear b1
      obtain ⟨d0, d1, d2, d3, d4, d5, _⟩ := blk6 KB.out
      obtain ⟨p0, p1, p2, p3⟩ := blk4 KP.out
      have z := KB.out.lt
      have z' := KP.out.lt
      go_wp2_with fail
      refine (H2.out _).mono ?_
      rintro e w2 ⟨rfl, b2⟩
      replace KP := Lib.hid ((KP.out.alloc _).keep b2)
      have KX := Lib.hid ((Blk.new w1 38 _).keep b2)
      replace B1 := Lib.hid (bthen (balloc B1.out _) b2)
      clear b2 d0 d1 d2 d3 d4 d5 p0 p1 p2 p3 KB z z'
      go_wp2
      refine fin (fun W => Blk W w.heap.size 40 #[.int .i64 (P 0), .int .i64 (P 1), .int .i64 (P 2), .int .i64 (P 3)] ∧ Blk W w1.heap.size 38 #[.int .i64 a0, .int .i64 a1, .int .i64 a2] ∧ Blk W w2.heap.size 38 #[.int .i64 b0, .int .i64 b1, .int .i64 b2] ∧ Below w.heap.size w W) ⟨KP.out.alloc _, KX.out.alloc _, Blk.new w2 _ _, balloc B1.out _⟩ ?_
      clear KP KX B1
      rintro W ⟨kp, kx, ky, hb⟩
      have KP := Lib.hid kp
      have KX := Lib.hid kx
      have KY := Lib.hid ky
      have HB := Lib.hid hb
      clear kp kx ky hb
      have HS : Hid (∀ w', Below W.heap.size W w' → (w'.cell? ⟨w1.heap.size, 0, none⟩ = some (.int .i64 a0) ∧ w'.cell? ⟨w1.heap.size, 1, none⟩ = some (.int .i64 a1) ∧ w'.cell? ⟨w1.heap.size, 2, none⟩ = some (.int .i64 a2) ∧ w'.cell? ⟨w2.heap.size, 0, none⟩ = some (.int .i64 b0) ∧ w'.cell? ⟨w2.heap.size, 1, none⟩ = some (.int .i64 b1) ∧ w'.cell? ⟨w2.heap.size, 2, none⟩ = some (.int .i64 b2) ∧ w'.cell? ⟨w.heap.size, 3, none⟩ = some (.int .i64 (P 3)))) :=
        Lib.hid (fun w' hb => ⟨(KX.out.keep hb).cell 0, (KX.out.keep hb).cell 1, (KX.out.keep hb).cell 2, (KY.out.keep hb).cell 0, (KY.out.keep hb).cell 1, (KY.out.keep hb).cell 2, (KP.out.keep hb).cell 3⟩)
      go_region_held3 (fun w' => w'.cell? ⟨w1.heap.size, 0, none⟩ = some (.int .i64 a0) ∧ w'.cell? ⟨w1.heap.size, 1, none⟩ = some (.int .i64 a1) ∧ w'.cell? ⟨w1.heap.size, 2, none⟩ = some (.int .i64 a2) ∧ w'.cell? ⟨w2.heap.size, 0, none⟩ = some (.int .i64 b0) ∧ w'.cell? ⟨w2.heap.size, 1, none⟩ = some (.int .i64 b1) ∧ w'.cell? ⟨w2.heap.size, 2, none⟩ = some (.int .i64 b2) ∧ w'.cell? ⟨w.heap.size, 3, none⟩ = some (.int .i64 (P 3)))
        (first | exact HS.out _ (bthen (bthen (alloc_below _ _) (bdrew c1)) c2) | exact HS.out _ (bthen (alloc_below _ _) (bdrew c1)) | exact HS.out _ (bdrewn (alloc_below _ _)) | exact HS.out _ (bdrewn (Below.refl _ _)))
        (first | (go_at_call 82; refine (T1.out _).mono ?_; rintro e w4 ⟨rfl, c2⟩) | (go_at_call 80; refine (pick_xyz_l _ _ _ l0 l1 l2 HL.out (vrow2 (Blk.drew (Blk.new W _ _)))).mono ?_; rintro e w3 ⟨rfl, c1⟩))
      have B2 := Lib.hid (bthen (bthen (alloc_below _ _) (bdrew c1)) c2)
      clear c1 c2 HS
      replace KP := Lib.hid (KP.out.keep B2.out)
      replace KX := Lib.hid (KX.out.keep B2.out)
      replace KY := Lib.hid (KY.out.keep B2.out)
      replace HB := Lib.hid (bthen HB.out B2.out)
      clear B2
      by_cases hf1 : f1 = 0
      · have hg1 : (f1 != 0) = false := by rw [hf1]; rfl
        have HF1 := Lib.hid hf1
        clear hf1
        go_wp2
        have HS : Hid (∀ w', Below w4.heap.size w4 w' → (w'.cell? ⟨w1.heap.size, 0, none⟩ = some (.int .i64 a0) ∧ w'.cell? ⟨w1.heap.size, 1, none⟩ = some (.int .i64 a1) ∧ w'.cell? ⟨w1.heap.size, 2, none⟩ = some (.int .i64 a2) ∧ w'.cell? ⟨w2.heap.size, 0, none⟩ = some (.int .i64 b0) ∧ w'.cell? ⟨w2.heap.size, 1, none⟩ = some (.int .i64 b1) ∧ w'.cell? ⟨w2.heap.size, 2, none⟩ = some (.int .i64 b2) ∧ w'.cell? ⟨w.heap.size, 3, none⟩ = some (.int .i64 (P 3)))) :=
          Lib.hid (fun w' hb => ⟨(KX.out.keep hb).cell 0, (KX.out.keep hb).cell 1, (KX.out.keep hb).cell 2, (KY.out.keep hb).cell 0, (KY.out.keep hb).cell 1, (KY.out.keep hb).cell 2, (KP.out.keep hb).cell 3⟩)
        go_region_held3 (fun w' => w'.cell? ⟨w1.heap.size, 0, none⟩ = some (.int .i64 a0) ∧ w'.cell? ⟨w1.heap.size, 1, none⟩ = some (.int .i64 a1) ∧ w'.cell? ⟨w1.heap.size, 2, none⟩ = some (.int .i64 a2) ∧ w'.cell? ⟨w2.heap.size, 0, none⟩ = some (.int .i64 b0) ∧ w'.cell? ⟨w2.heap.size, 1, none⟩ = some (.int .i64 b1) ∧ w'.cell? ⟨w2.heap.size, 2, none⟩ = some (.int .i64 b2) ∧ w'.cell? ⟨w.heap.size, 3, none⟩ = some (.int .i64 (P 3)))
          (first | exact HS.out _ (bthen (bthen (alloc_below _ _) (bdrew c1)) c2) | exact HS.out _ (bthen (alloc_below _ _) (bdrew c1)) | exact HS.out _ (bdrewn (alloc_below _ _)) | exact HS.out _ (bdrewn (Below.refl _ _)))
          (first | (go_at_call 82; refine (T2.out _).mono ?_; rintro e w6 ⟨rfl, c2⟩) | (go_at_call 83; refine (pick_xyz_g _ _ _ g0 g1 g2 HG.out (vrow2 (Blk.drew (Blk.new w4 _ _)))).mono ?_; rintro e w5 ⟨rfl, c1⟩))
        have HB2 := Lib.hid (bthen HB.out (bthen (bthen (alloc_below _ _) (bdrew c1)) c2))
        clear c1 c2 HS
        by_cases hf2 : f2 = 0
        · have hg2 : (f2 != 0) = false := by rw [hf2]; rfl
          have HF2 := Lib.hid hf2
          clear hf2
          go_wp2
          have q := HX.out.2.2 HF1.out HF2.out
          exact bodyPost_ret (v := .tuple #[.int .i64 u, .int .i64 v, .int .i64 0]) (by simp [results, Try.results70, go_sem]) rfl ⟨by rw [q.1, q.2.1, q.2.2], HB2.out⟩
        · have hg2 : (f2 != 0) = true := by simpa using hf2
          have q := Lib.hid (HX.out.2.1 hf2)
          clear hf2
          go_wp2
          exact bodyPost_ret (v := .tuple #[.int .i64 0, .int .i64 0, .int .i64 f2]) (by simp [results, Try.results70, go_sem]) rfl ⟨by rw [q.out.1, q.out.2, (en_no q.out.2).1, (en_no q.out.2).2], HB2.out⟩
      · have hg1 : (f1 != 0) = true := by simpa using hf1
        have q := Lib.hid (HX.out.1 hf1)
        clear hf1
        go_wp2
        exact bodyPost_ret (v := .tuple #[.int .i64 0, .int .i64 0, .int .i64 f1]) (by simp [results, Try.results70, go_sem]) rfl ⟨by rw [q.out.1, q.out.2, (en_no q.out.2).1, (en_no q.out.2).2], HB.out⟩
    · have hy2 : (y2 != 0) = true := by simpa using he2
      have q := Lib.hid (hi_bad (t := P 3) HO.out.1 HO.out.2 (by rw [HC.out.2.2.2.2]; exact he2))
      rw [HC.out.2.2.2.2] at q
      clear he1 he2
      go_enter Try.func70, Try.ntmps70
      go_wp2_with fail
      refine (H1.out _).mono ?_
      rintro e w1 ⟨rfl, b1⟩
      have KP := Lib.hid (((Blk.new w 40 _).alloc _).keep b1)
      have KB := Lib.hid (blkAt ((Blk.new (w.alloc _) 48 _).keep b1) (g' := w.heap.size + 1) (by simp))
      have B1 := Lib.hid (bthen (balloc (alloc_below _ _) _) b1)
      clear b1
      obtain ⟨d0, d1, d2, d3, d4, d5, _⟩ := blk6 KB.out
      obtain ⟨p0, p1, p2, p3⟩ := blk4 KP.out
      have z := KB.out.lt
      have z' := KP.out.lt
      go_wp2_with fail
      refine (H2.out _).mono ?_
      rintro e w2 ⟨rfl, b2⟩
      replace B1 := Lib.hid (bthen (balloc B1.out _) b2)
      clear b2 d0 d1 d2 d3 d4 d5 p0 p1 p2 p3 KB KP z z'
      go_wp2
      exact bodyPost_ret (v := .tuple #[.int .i64 0, .int .i64 0, .int .i64 y2]) (by simp [results, Try.results70, go_sem]) rfl ⟨by rw [q.out.1, q.out.2, (en_no q.out.2).1, (en_no q.out.2).2], balloc B1.out _⟩
  · have hy1 : (y1 != 0) = true := by simpa using he1
    have q := Lib.hid (lo_bad (t := P 3) HO.out.1 HO.out.2 (by rw [HC.out.1.2.2.2]; exact he1))
    rw [HC.out.1.2.2.2] at q
    clear he1
    go_enter Try.func70, Try.ntmps70
    go_wp2_with fail
    refine (H1.out _).mono ?_
    rintro e w1 ⟨rfl, b1⟩
    have B1 := Lib.hid (bthen (balloc (alloc_below _ _) _) b1)
    clear b1
    go_wp2
    exact bodyPost_ret (v := .tuple #[.int .i64 0, .int .i64 0, .int .i64 y1]) (by simp [results, Try.results70, go_sem]) rfl ⟨by rw [q.out.1, q.out.2, (en_no q.out.2).1, (en_no q.out.2).2], balloc B1.out _⟩

theorem okBox_as (B : Nat → Int) : okBox B = (rightV [(B 0, B 1, B 2), (B 3, B 4, B 5)] && (bet lessB (B 0) (B 3) == B 0 && bet lessB (B 1) (B 4) == B 1 && bet lessB (B 2) (B 5) == B 2)) := by
  have e : ∀ a b : Int, (bet lessB a b == a) = decide (a ≤ b) := fun a b => by
    rw [bet_less]
    by_cases c : a ≤ b
    · rw [show min a b = a by omega, decide_eq_true c]; simp
    · rw [decide_eq_false c]; simp; omega
  rw [e, e, e]
  unfold okBox boxTo boxTo boxTo boxTo
  cases rightV [(B 0, B 1, B 2), (B 3, B 4, B 5)] <;> simp [Bool.and_assoc]
theorem vright_b {a : Option Addr} {len cap : Nat} {vs : List V3} {w : World} {b : Bool} (hr : rightV vs = b) (row : VRow w a len vs) :
    Calls Try.prog 49 #[.slice a len cap] w fun e w' => e = .returned (.bool b) ∧ Below w.heap.size w w' :=
  (vright_any a len cap vs w row).mono fun _ _ ⟨he, hw⟩ => ⟨by rw [he, hr], hw⟩
theorem right_b {a : Option Addr} {len cap : Nat} {zs : List Int} {w : World} {b : Bool} (hr : rightB zs = b) (row : Row w a len zs) :
    Calls Try.prog 50 #[.slice a len cap] w fun e w' => e = .returned (.bool b) ∧ w = w' :=
  (right_any a len cap zs w row).mono fun _ _ ⟨he, hw⟩ => ⟨by rw [he, hr], hw⟩

set_option maxHeartbeats 2000000 in
theorem shright_any (a : Option Addr) (len cap : Nat) (Bs : List (Nat → Int)) (w : World) (row : BRow w a len Bs) :
    Calls Try.prog 69 #[.slice a len cap] w fun e w' => e = .returned (.bool (rightBx Bs)) ∧ Below w.heap.size w w' := by
  have HL := Lib.hid row.1
  have hbig := row.2.1
  have HRow := Lib.hid row
  clear row
  go_enter Try.func69, Try.ntmps69
  go_wp2
  go_loopw [4, 7] (fun _ i wr => ∃ k : Nat, k ≤ len ∧ i = .int .i64 k ∧ rightBx (Bs.take k) = true ∧ Below w.heap.size w wr) (fun _ i _ => len - (intOf i).toNat)
  case atStart => exact ⟨0, Nat.zero_le _, rfl, rfl, Below.refl _ _⟩
  case round =>
    obtain ⟨k, hk, rfl, hr, hb⟩ := hrel
    have HR := Lib.hid hr
    have HB := Lib.hid hb
    clear hr hb
    by_cases hlt : k < len
    · obtain ⟨b, off, B, rfl, hv, m0, m1, m2, m3, m4, m5⟩ := (brow_keep HRow.out HB.out).at_ hlt
      have HV := Lib.hid hv
      clear hv
      have HS : Hid (∀ w', Below (wr.alloc (.cells #[.int .i64 (B 0), .int .i64 (B 1), .int .i64 (B 2), .int .i64 (B 3), .int .i64 (B 4), .int .i64 (B 5)] 48)).heap.size (wr.alloc (.cells #[.int .i64 (B 0), .int .i64 (B 1), .int .i64 (B 2), .int .i64 (B 3), .int .i64 (B 4), .int .i64 (B 5)] 48)) w' → (w'.cell? ⟨wr.heap.size, 0, none⟩ = some (.int .i64 (B 0)) ∧ w'.cell? ⟨wr.heap.size, 1, none⟩ = some (.int .i64 (B 1)) ∧ w'.cell? ⟨wr.heap.size, 2, none⟩ = some (.int .i64 (B 2)) ∧ w'.cell? ⟨wr.heap.size, 3, none⟩ = some (.int .i64 (B 3)) ∧ w'.cell? ⟨wr.heap.size, 4, none⟩ = some (.int .i64 (B 4)) ∧ w'.cell? ⟨wr.heap.size, 5, none⟩ = some (.int .i64 (B 5)))) :=
        Lib.hid (fun w' hb => ⟨((Blk.new wr _ _).keep hb).cell 0, ((Blk.new wr _ _).keep hb).cell 1, ((Blk.new wr _ _).keep hb).cell 2, ((Blk.new wr _ _).keep hb).cell 3, ((Blk.new wr _ _).keep hb).cell 4, ((Blk.new wr _ _).keep hb).cell 5⟩)
      obtain ⟨p0, p1, p2, hp⟩ : ∃ p0 p1 p2, pk lessB [(B 0, B 1, B 2), (B 3, B 4, B 5)] = (p0, p1, p2) := ⟨_, _, _, rfl⟩
      have hok := okBox_as B
      obtain ⟨q0, hq⟩ : bet lessB (B 0) (B 3) = p0 ∧ bet lessB (B 1) (B 4) = p1 ∧ bet lessB (B 2) (B 5) = p2 := by
        have h3 : (bet lessB (B 0) (B 3), bet lessB (B 1) (B 4), bet lessB (B 2) (B 5)) = (p0, p1, p2) := hp
        simpa using h3
      rw [q0, hq.1, hq.2] at hok
      have HP := Lib.hid hp
      have HOk := Lib.hid hok
      clear hp hok q0 hq
      have heq := eqVec
      by_cases hr2 : rightV [(B 0, B 1, B 2), (B 3, B 4, B 5)] = true
      · have HR2 := Lib.hid hr2
        clear hr2
        by_cases hmn : (p0 == B 0 && p1 == B 1 && p2 == B 2) = true
        · go_wp2
          go_region_held3 (fun w' => w'.cell? ⟨wr.heap.size, 0, none⟩ = some (.int .i64 (B 0)) ∧ w'.cell? ⟨wr.heap.size, 1, none⟩ = some (.int .i64 (B 1)) ∧ w'.cell? ⟨wr.heap.size, 2, none⟩ = some (.int .i64 (B 2)) ∧ w'.cell? ⟨wr.heap.size, 3, none⟩ = some (.int .i64 (B 3)) ∧ w'.cell? ⟨wr.heap.size, 4, none⟩ = some (.int .i64 (B 4)) ∧ w'.cell? ⟨wr.heap.size, 5, none⟩ = some (.int .i64 (B 5)))
            (first | exact HS.out _ (bthen (balloc (bthen (alloc_below _ _) (bdrew c1)) _) c2) | exact HS.out _ (balloc (bthen (alloc_below _ _) (bdrew c1)) _) | exact HS.out _ (bthen (alloc_below _ _) (bdrew c1)) | exact HS.out _ (bdrewn (alloc_below _ _)) | exact HS.out _ (bdrewn (Below.refl _ _)))
            (first | (go_at_call 80; refine (pick_xyz_l _ _ _ p0 p1 p2 HP.out (vrow2 (Blk.new _ _ _))).mono ?_; rintro e w2 ⟨rfl, c2⟩) | (go_at_call 49; refine (vright_b HR2.out (vrow2 (Blk.drew (blkAt (Blk.new _ _ _) (by simp))))).mono ?_; rintro e w1 ⟨rfl, c1⟩))
          have B2 := Lib.hid (bthen (balloc (bthen (balloc (balloc HB.out _) _) (bdrew c1)) _) c2)
          have HG := Lib.hid (show okBox B = true by rw [HOk.out, HR2.out, hmn]; rfl)
          clear c1 c2 hmn m0 m1 m2 m3 m4 m5
          go_wp2
          go_roundw
          case rel => exact ⟨k + 1, by omega, by go_num, rightBx_succ HV.out HR.out HG.out, B2.out⟩
          case measure => simp [intOf] <;> omega
        · have hmn' : (p0 == B 0 && p1 == B 1 && p2 == B 2) = false := by simpa using hmn
          clear hmn
          go_wp2
          go_region_held3 (fun w' => w'.cell? ⟨wr.heap.size, 0, none⟩ = some (.int .i64 (B 0)) ∧ w'.cell? ⟨wr.heap.size, 1, none⟩ = some (.int .i64 (B 1)) ∧ w'.cell? ⟨wr.heap.size, 2, none⟩ = some (.int .i64 (B 2)) ∧ w'.cell? ⟨wr.heap.size, 3, none⟩ = some (.int .i64 (B 3)) ∧ w'.cell? ⟨wr.heap.size, 4, none⟩ = some (.int .i64 (B 4)) ∧ w'.cell? ⟨wr.heap.size, 5, none⟩ = some (.int .i64 (B 5)))
            (first | exact HS.out _ (bthen (balloc (bthen (alloc_below _ _) (bdrew c1)) _) c2) | exact HS.out _ (balloc (bthen (alloc_below _ _) (bdrew c1)) _) | exact HS.out _ (bthen (alloc_below _ _) (bdrew c1)) | exact HS.out _ (bdrewn (alloc_below _ _)) | exact HS.out _ (bdrewn (Below.refl _ _)))
            (first | (go_at_call 80; refine (pick_xyz_l _ _ _ p0 p1 p2 HP.out (vrow2 (Blk.new _ _ _))).mono ?_; rintro e w2 ⟨rfl, c2⟩) | (go_at_call 49; refine (vright_b HR2.out (vrow2 (Blk.drew (blkAt (Blk.new _ _ _) (by simp))))).mono ?_; rintro e w1 ⟨rfl, c1⟩))
          have B2 := Lib.hid (bthen (balloc (bthen (balloc (balloc HB.out _) _) (bdrew c1)) _) c2)
          have HG := Lib.hid (show okBox B = false by rw [HOk.out, HR2.out, hmn']; rfl)
          clear c1 c2 hmn' m0 m1 m2 m3 m4 m5
          go_wp2
          go_ret
          exact ⟨by rw [rightBx_bad HV.out HG.out]; rfl, B2.out⟩
      · have hr3 : rightV [(B 0, B 1, B 2), (B 3, B 4, B 5)] = false := by simpa using hr2
        have HR2 := Lib.hid hr3
        clear hr2 hr3
        go_wp2
        refine wp_region_held_drew (S := (fun w' => w'.cell? ⟨wr.heap.size, 0, none⟩ = some (.int .i64 (B 0)) ∧ w'.cell? ⟨wr.heap.size, 1, none⟩ = some (.int .i64 (B 1)) ∧ w'.cell? ⟨wr.heap.size, 2, none⟩ = some (.int .i64 (B 2)) ∧ w'.cell? ⟨wr.heap.size, 3, none⟩ = some (.int .i64 (B 3)) ∧ w'.cell? ⟨wr.heap.size, 4, none⟩ = some (.int .i64 (B 4)) ∧ w'.cell? ⟨wr.heap.size, 5, none⟩ = some (.int .i64 (B 5)))) (by kernel_rfl) (HS.out _ (bdrewn (Below.refl _ _))) (fun hHeld => ?_)
        refine wpAnyH_take (i := 0) (v := ?_) rfl (by kernel_rfl) (by kernel_rfl) (by kernel_rfl) (fun _ _ _ h => h) (Or.inl ⟨by rfl, ?_⟩) hHeld ?_
        rotate_left
        · rintro w ⟨s0, s1, s2, s3, s4, s5⟩
          go_simp
          with_reducible rfl
        simp only [Act.put, List.getElem_toArray, List.getElem_cons_zero, List.setIfInBounds_toArray, List.set_cons_zero, List.set_cons_succ]
        refine wpAnyH_take (i := 1) (v := ?_) rfl (by kernel_rfl) (by kernel_rfl) (by kernel_rfl) (fun _ _ _ h => h) (Or.inl ⟨by rfl, ?_⟩) hHeld ?_
        rotate_left
        · rintro w ⟨s0, s1, s2, s3, s4, s5⟩
          go_simp
          with_reducible rfl
        simp only [Act.put, List.getElem_toArray, List.getElem_cons_zero, List.getElem_cons_succ, List.setIfInBounds_toArray, List.set_cons_zero, List.set_cons_succ]
        refine wpAnyH_take (i := 2) (v := ?_) rfl (by kernel_rfl) (by kernel_rfl) (by kernel_rfl) (fun _ _ _ h => h) (Or.inl ⟨by rfl, ?_⟩) hHeld ?_
        rotate_left
        · rintro w ⟨s0, s1, s2, s3, s4, s5⟩
          go_simp
          with_reducible rfl
        simp only [Act.put, List.getElem_toArray, List.getElem_cons_zero, List.getElem_cons_succ, List.setIfInBounds_toArray, List.set_cons_zero, List.set_cons_succ]
        refine wpAnyH_take (i := 3) (v := ?_) rfl (by kernel_rfl) (by kernel_rfl) (by kernel_rfl) (fun _ _ _ h => h) (Or.inl ⟨by rfl, ?_⟩) hHeld ?_
        rotate_left
        · rintro w ⟨s0, s1, s2, s3, s4, s5⟩
          go_simp
          with_reducible rfl
        simp only [Act.put, List.getElem_toArray, List.getElem_cons_zero, List.getElem_cons_succ, List.setIfInBounds_toArray, List.set_cons_zero, List.set_cons_succ]
        refine rd 4 (fun K hK => ?_)
        go_simp
        refine hK.out _ _ (HS.out _ (bdrewn (alloc_below _ _))) (fun hHeld => ?_)
        clear hK K
        refine rd 5 (fun K hK => ?_)
        go_simp
        go_at_call 49
        refine (vright_b HR2.out (vrow2 (Blk.drew (blkAt (Blk.new _ _ _) (by simp))))).mono ?_
        rintro e w1 ⟨rfl, c1⟩
        go_wp2_with fail
        refine hK.out _ _ (HS.out _ (bthen (alloc_below _ _) (bdrew c1))) (fun hHeld => ?_)
        clear hK K
        refine tk 6 hHeld ?_
        refine tk 7 hHeld ?_
        refine tks 8 hHeld ?_
        refine tks 9 hHeld ?_
        refine tks 10 hHeld ?_
        refine tks 11 hHeld ?_
        refine tks 12 hHeld ?_
        refine tks 13 hHeld ?_
        refine tks 14 hHeld ?_
        refine tks 15 hHeld ?_
        refine tks 16 hHeld ?_
        refine tk 17 hHeld ?_
        refine wpAnyH_done (by kernel_rfl) ?_ _
        clear hHeld
        have B2 := Lib.hid (bthen (balloc (balloc HB.out _) _) (bdrew c1))
        have HG := Lib.hid (show okBox B = false by rw [HOk.out, HR2.out]; rfl)
        clear c1 m0 m1 m2 m3 m4 m5
        go_wp2
        go_ret
        exact ⟨by rw [rightBx_bad HV.out HG.out]; rfl, B2.out⟩
    · obtain rfl : k = len := by omega
      go_wp2
      go_ret
      exact ⟨by rw [show Bs = Bs.take k from (List.take_of_length_le (by rw [HL.out]; exact Nat.le_refl _)).symm, HR.out]; rfl, HB.out⟩

theorem brow1 {w : World} {g : Nat} {t : TypeId} {B : Nat → Int} (h : Blk w g t #[.int .i64 (B 0), .int .i64 (B 1), .int .i64 (B 2), .int .i64 (B 3), .int .i64 (B 4), .int .i64 (B 5)]) : BRow w (some ⟨g, 0, none⟩) 1 [B] := by
  refine ⟨rfl, by omega, Or.inr ⟨_, _, rfl, fun i hi j hj => ?_⟩⟩
  obtain rfl : i = 0 := by omega
  rcases lt6 hj with rfl | rfl | rfl | rfl | rfl | rfl
  · exact h.cell 0
  · exact h.cell 1
  · exact h.cell 2
  · exact h.cell 3
  · exact h.cell 4
  · exact h.cell 5
set_option maxHeartbeats 1000000 in
theorem shplane_b {P : Nat → Int} {g : Nat} {b : Bool} (w : World) (hB : Blk w g 40 #[.int .i64 (P 0), .int .i64 (P 1), .int .i64 (P 2), .int .i64 (P 3)]) (hb : okPlane P = b) :
    Calls Try.prog 36 #[.slice (some ⟨g, 0, none⟩) 1 1] w fun e w' => e = .returned (.bool b) ∧ Below w.heap.size w w' := by
  have hz : okPlane P = (ok3 (P 0) (P 1) (P 2) && okB (P 3)) := by unfold okPlane ok3 rightB; simp [Bool.and_assoc]
  rw [← hb, hz]
  clear hb hz
  obtain ⟨c0, c1, c2, c3⟩ := blk4 hB
  have z := hB.lt
  clear hB
  by_cases h3 : ok3 (P 0) (P 1) (P 2) = true
  · have H3 := Lib.hid ((rightV1 _ _ _).trans h3)
    rw [h3]
    clear h3
    by_cases h1 : okB (P 3) = true
    · have H1 := Lib.hid (show rightB [P 3] = true by unfold rightB; simp [h1])
      rw [h1]
      clear h1
      go_enter Try.func36, Try.ntmps36
      go_wp2
      refine wp_loop_rounds 2 ?_
      rw [rounds_succ]
      go_wp2_with fail
      refine (vright_b H3.out (vrow1 (blkAt (Blk.new _ _ _) (by simp)))).mono ?_
      rintro e w1 ⟨rfl, b1⟩
      have K1 := Lib.hid ((((Blk.new w 40 _).alloc _).keep b1))
      have B1 := Lib.hid (bthen (balloc (alloc_below _ _) _) b1)
      clear b1
      obtain ⟨d0, d1, d2, d3⟩ := blk4 K1.out
      have z1 := K1.out.lt
      go_wp2_with fail
      refine (right_b H1.out (row1 w1 (P 3) _)).mono ?_
      rintro e w2 ⟨rfl, rfl⟩
      go_wp2
      rw [rounds_succ]
      go_wp2
      go_ret
      exact ⟨rfl, balloc B1.out _⟩
    · have h1' : okB (P 3) = false := by simpa using h1
      have H1 := Lib.hid (show rightB [P 3] = false by unfold rightB; simp [h1'])
      rw [h1']
      clear h1 h1'
      go_enter Try.func36, Try.ntmps36
      go_wp2
      refine wp_loop_rounds 2 ?_
      rw [rounds_succ]
      go_wp2_with fail
      refine (vright_b H3.out (vrow1 (blkAt (Blk.new _ _ _) (by simp)))).mono ?_
      rintro e w1 ⟨rfl, b1⟩
      have K1 := Lib.hid ((((Blk.new w 40 _).alloc _).keep b1))
      have B1 := Lib.hid (bthen (balloc (alloc_below _ _) _) b1)
      clear b1
      obtain ⟨d0, d1, d2, d3⟩ := blk4 K1.out
      have z1 := K1.out.lt
      go_wp2_with fail
      refine (right_b H1.out (row1 w1 (P 3) _)).mono ?_
      rintro e w2 ⟨rfl, rfl⟩
      go_wp2
      go_ret
      exact ⟨rfl, balloc B1.out _⟩
  · have h3' : ok3 (P 0) (P 1) (P 2) = false := by simpa using h3
    have H3 := Lib.hid ((rightV1 _ _ _).trans h3')
    rw [h3']
    clear h3 h3'
    go_enter Try.func36, Try.ntmps36
    go_wp2
    refine wp_loop_rounds 2 ?_
    rw [rounds_succ]
    go_wp2_with fail
    refine (vright_b H3.out (vrow1 (blkAt (Blk.new _ _ _) (by simp)))).mono ?_
    rintro e w1 ⟨rfl, b1⟩
    have B1 := Lib.hid (bthen (balloc (alloc_below _ _) _) b1)
    clear b1
    go_wp2
    go_ret
    exact ⟨rfl, B1.out⟩

theorem shright1 {B : Nat → Int} {b : Bool} (ho : okBox B = b) {w : World} {g cap : Nat} {t : TypeId} (h : Blk w g t #[.int .i64 (B 0), .int .i64 (B 1), .int .i64 (B 2), .int .i64 (B 3), .int .i64 (B 4), .int .i64 (B 5)]) :
    Calls Try.prog 69 #[.slice (some ⟨g, 0, none⟩) 1 cap] w fun e w' => e = .returned (.bool b) ∧ Below w.heap.size w w' :=
  (shright_any _ 1 cap [B] w (brow1 h)).mono fun _ _ ⟨he, hw⟩ => ⟨by rw [he]; unfold rightBx; simp [ho], hw⟩
set_option maxHeartbeats 1000000 in
theorem shspan_no1 (P B : Nat → Int) (w : World) (h : okPlane P = false) :
    Calls Try.prog 54 #[.agg #[.int .i64 (P 0), .int .i64 (P 1), .int .i64 (P 2), .int .i64 (P 3)], .agg #[.int .i64 (B 0), .int .i64 (B 1), .int .i64 (B 2), .int .i64 (B 3), .int .i64 (B 4), .int .i64 (B 5)]] w fun e w' => e = .returned (.tuple #[.int .i64 0, .int .i64 0, .int .i64 1]) ∧ Below w.heap.size w w' := by
  have HO := Lib.hid (And.intro h True.intro)
  clear h
  go_enter Try.func54, Try.ntmps54
  go_wp2_with fail
  refine (shplane_b _ (blkAt (Blk.new _ _ _) (by simp)) HO.out.1).mono ?_
  rintro e w1 ⟨rfl, b1⟩
  have B1 := Lib.hid (bthen (balloc (balloc (alloc_below _ _) _) _) b1)
  clear b1
  go_wp2
  exact bodyPost_ret (v := .tuple #[.int .i64 0, .int .i64 0, .int .i64 1]) (by simp [results, Try.results54, go_sem]) rfl ⟨rfl, B1.out⟩

set_option maxHeartbeats 1000000 in
theorem shspan_no2 (P B : Nat → Int) (w : World) (h : okPlane P = true) (h' : okBox B = false) :
    Calls Try.prog 54 #[.agg #[.int .i64 (P 0), .int .i64 (P 1), .int .i64 (P 2), .int .i64 (P 3)], .agg #[.int .i64 (B 0), .int .i64 (B 1), .int .i64 (B 2), .int .i64 (B 3), .int .i64 (B 4), .int .i64 (B 5)]] w fun e w' => e = .returned (.tuple #[.int .i64 0, .int .i64 0, .int .i64 1]) ∧ Below w.heap.size w w' := by
  have HO := Lib.hid (And.intro h h')
  clear h h'
  go_enter Try.func54, Try.ntmps54
  go_wp2_with fail
  refine (shplane_b _ (blkAt (Blk.new _ _ _) (by simp)) HO.out.1).mono ?_
  rintro e w1 ⟨rfl, b1⟩
  have KP := Lib.hid ((((Blk.new w 40 _).alloc _).alloc _).keep b1)
  have KV := Lib.hid (blkAt (((Blk.new (w.alloc _) 48 _).alloc _).keep b1) (g' := w.heap.size + 1) (by simp))
  have B1 := Lib.hid (bthen (balloc (balloc (alloc_below _ _) _) _) b1)
  clear b1
  obtain ⟨d0, d1, d2, d3, d4, d5, _⟩ := blk6 KV.out
  have z := KV.out.lt
  have z' := KP.out.lt
  go_wp2_with fail
  refine (shright1 HO.out.2 (blkAt (Blk.new _ _ _) (by simp))).mono ?_
  rintro e w2 ⟨rfl, b2⟩
  replace KP := Lib.hid ((KP.out.alloc _).keep b2)
  replace KV := Lib.hid ((KV.out.alloc _).keep b2)
  replace B1 := Lib.hid (bthen (balloc B1.out _) b2)
  clear b2 d0 d1 d2 d3 d4 d5 z z'
  go_wp2
  exact bodyPost_ret (v := .tuple #[.int .i64 0, .int .i64 0, .int .i64 1]) (by simp [results, Try.results54, go_sem]) rfl ⟨rfl, B1.out⟩

set_option maxHeartbeats 1000000 in
theorem shspan_yes (P B : Nat → Int) (w : World) (h : okPlane P = true) (h' : okBox B = true) :
    Calls Try.prog 54 #[.agg #[.int .i64 (P 0), .int .i64 (P 1), .int .i64 (P 2), .int .i64 (P 3)], .agg #[.int .i64 (B 0), .int .i64 (B 1), .int .i64 (B 2), .int .i64 (B 3), .int .i64 (B 4), .int .i64 (B 5)]] w fun e w' => e = .returned (.tuple #[.int .i64 (enLo P B (P 3)), .int .i64 (enHi P B (P 3)), .int .i64 (enE P B (P 3))]) ∧ Below w.heap.size w w' := by
  have HO := Lib.hid (And.intro h h')
  clear h h'
  go_enter Try.func54, Try.ntmps54
  go_wp2_with fail
  refine (shplane_b _ (blkAt (Blk.new _ _ _) (by simp)) HO.out.1).mono ?_
  rintro e w1 ⟨rfl, b1⟩
  have KP := Lib.hid ((((Blk.new w 40 _).alloc _).alloc _).keep b1)
  have KV := Lib.hid (blkAt (((Blk.new (w.alloc _) 48 _).alloc _).keep b1) (g' := w.heap.size + 1) (by simp))
  have B1 := Lib.hid (bthen (balloc (balloc (alloc_below _ _) _) _) b1)
  clear b1
  obtain ⟨d0, d1, d2, d3, d4, d5, _⟩ := blk6 KV.out
  have z := KV.out.lt
  have z' := KP.out.lt
  go_wp2_with fail
  refine (shright1 HO.out.2 (blkAt (Blk.new _ _ _) (by simp))).mono ?_
  rintro e w2 ⟨rfl, b2⟩
  replace KP := Lib.hid ((KP.out.alloc _).keep b2)
  replace KV := Lib.hid ((KV.out.alloc _).keep b2)
  replace B1 := Lib.hid (bthen (balloc B1.out _) b2)
  clear b2 d0 d1 d2 d3 d4 d5 z z'
  obtain ⟨d0, d1, d2, d3, d4, d5, _⟩ := blk6 KV.out
  obtain ⟨p0, p1, p2, p3⟩ := blk4 KP.out
  go_wp2_with fail
  refine (ends_any P B _ HO.out.1 HO.out.2).mono ?_
  rintro e w3 ⟨rfl, b3⟩
  replace B1 := Lib.hid (bthen B1.out b3)
  clear b3 d0 d1 d2 d3 d4 d5 p0 p1 p2 p3
  go_wp2
  exact bodyPost_ret (v := .tuple #[.int .i64 (enLo P B (P 3)), .int .i64 (enHi P B (P 3)), .int .i64 (enE P B (P 3))]) (by simp [results, Try.results54, go_sem]) rfl ⟨rfl, B1.out⟩

theorem shspan_any (P B : Nat → Int) (w : World) :
    Calls Try.prog 54 #[.agg #[.int .i64 (P 0), .int .i64 (P 1), .int .i64 (P 2), .int .i64 (P 3)], .agg #[.int .i64 (B 0), .int .i64 (B 1), .int .i64 (B 2), .int .i64 (B 3), .int .i64 (B 4), .int .i64 (B 5)]] w fun e w' => e = .returned (.tuple #[.int .i64 (spnLo P B), .int .i64 (spnHi P B), .int .i64 (spnE P B)]) ∧ Below w.heap.size w w' := by
  unfold spnLo spnHi spnE spnOk
  by_cases h : okPlane P = true
  · by_cases h' : okBox B = true
    · rw [h, h']
      exact shspan_yes P B w h h'
    · have h2 : okBox B = false := by simpa using h'
      rw [h2, Bool.and_false]
      exact shspan_no2 P B w h h2
  · have h2 : okPlane P = false := by simpa using h
    rw [h2, Bool.false_and]
    exact shspan_no1 P B w h2

theorem wpList_load_g {ops : Array Oper} {rest : List Oper} {op : Oper} {a : Act} {w : World} {Q : Exit → Act → World → Prop} (hw : Region.wanted op (yielded ops a.tmps) = true) (ty : TypeId) (x : Operand) (ho : op.op = .load ty x)
    (b o : Nat) (hx : a.eval x = .pointer (some ⟨b, o, none⟩)) (cs : List Value) (d : TypeDesc) (hc : w.rangeAt b o cs)
    (hu : Try.prog.underlying ty = some d) (hd : d.isRow = true) (hi : (Try.prog.info? ty).map (·.size) = some cs.length)
    (h : wpList Try.prog ops Q rest (a.put op.dst (.agg cs.toArray)) w) : wpList Try.prog ops Q (op :: rest) a w := by
  rw [wpList, if_pos hw]
  exact Or.inl (wp_load_mid ty x ho b o hx cs d hc hu hd hi h)

end Go.Proofs.Ytjcibffhlhdjeaa
