/-
  Matrices of whole numbers: products are exact where nothing runs over; so brackets do not matter; what leaves all leaves all.
-/
import Derived.Test.YtjdoneacbnalaaaAffN
namespace Go.Proofs.Ytjdoneacbnalaaa
open Go.RowKit

/-- what comes out of a product, a sum, where there is no error -/
theorem mul_exact {a b : Int} (h : mulE a b = 0) : mulV a b = a * b / 65536 := by
  by_cases ho : (okB a && okB b) = true
  · rw [(mul_yes ho).2] at h
    rw [(mul_yes ho).1]
    unfold fitE at h
    unfold fitV
    by_cases hk : okB (a * b / 65536) = true
    · rw [if_pos hk]
    · rw [if_neg hk] at h; omega
  · have ho' : (okB a && okB b) = false := by simpa using ho
    rw [(mul_no ho').2] at h
    omega
theorem add_exact {zs : List Int} (h : addE zs = 0) : addV zs = zs.sum := by
  by_cases ho : addOk zs = true
  · rw [addE_yes ho] at h
    rw [addV_yes ho]
    unfold fitE at h
    unfold fitV
    by_cases hk : okB zs.sum = true
    · rw [if_pos hk]
    · rw [if_neg hk] at h; omega
  · have ho' : addOk zs = false := by simpa using ho
    rw [addE_no ho'] at h
    omega
theorem first3_zero {a b c : Int} (h : first3 a b c = 0) : a = 0 ∧ b = 0 ∧ c = 0 := by
  unfold first3 at h
  by_cases h1 : a = 0
  · rw [if_pos h1] at h
    by_cases h2 : b = 0
    · rw [if_pos h2] at h; exact ⟨h1, h2, h⟩
    · rw [if_neg h2] at h; exact absurd h h2
  · rw [if_neg h1] at h; exact absurd h h1
theorem al_parts {M : Nat → Int} {r : Nat} {V : Nat → Int} {l : Int} (h : alE M r V l = 0) :
    alPE M r V 0 = 0 ∧ alPE M r V 1 = 0 ∧ alPE M r V 2 = 0 ∧ addE (alL M r V l) = 0 ∧ alV M r V l = addV (alL M r V l) := by
  by_cases hf : alF M r V = 0
  · have e := al_yes l hf
    rw [e.2] at h
    obtain ⟨h0, h1, h2⟩ := first3_zero hf
    exact ⟨h0, h1, h2, h, e.1⟩
  · have e := al_no l hf
    rw [e.2] at h
    exact absurd h hf
theorem whole_mul (a b : Int) : 65536 * a * (65536 * b) / 65536 = 65536 * (a * b) := by
  rw [show 65536 * a * (65536 * b) = 65536 * (65536 * (a * b)) by simp only [Int.mul_assoc, Int.mul_left_comm]]
  exact Int.mul_ediv_cancel_left _ (by decide)
/-- a row and a vector of whole numbers -/
theorem al_whole {M : Nat → Int} {r : Nat} {V : Nat → Int} {l : Int} (m0 m1 m2 v0 v1 v2 t : Int) (h : alE M r V l = 0)
    (e0 : M (4 * r + 0) = 65536 * m0) (e1 : M (4 * r + 1) = 65536 * m1) (e2 : M (4 * r + 2) = 65536 * m2) (f0 : V 0 = 65536 * v0) (f1 : V 1 = 65536 * v1) (f2 : V 2 = 65536 * v2) (hl : l = 65536 * t) :
    alV M r V l = 65536 * (m0 * v0 + m1 * v1 + m2 * v2 + t) := by
  obtain ⟨h0, h1, h2, ha, hv⟩ := al_parts h
  have p0 : alP M r V 0 = 65536 * (m0 * v0) := by unfold alP; rw [mul_exact h0, e0, f0]; exact whole_mul m0 v0
  have p1 : alP M r V 1 = 65536 * (m1 * v1) := by unfold alP; rw [mul_exact h1, e1, f1]; exact whole_mul m1 v1
  have p2 : alP M r V 2 = 65536 * (m2 * v2) := by unfold alP; rw [mul_exact h2, e2, f2]; exact whole_mul m2 v2
  rw [hv, add_exact ha]
  unfold alL
  rw [p0, p1, p2, hl]
  simp only [List.sum_cons, List.sum_nil]
  omega

/-- the product, and the vector, of whole numbers -/
def ipm (a b : Nat → Int) (k : Nat) : Int := a (4 * (k / 4)) * b (k % 4) + a (4 * (k / 4) + 1) * b (4 + k % 4) + a (4 * (k / 4) + 2) * b (8 + k % 4) + (if k % 4 = 3 then a (4 * (k / 4) + 3) else 0)
def iap (a v : Nat → Int) (r : Nat) : Int := a (4 * r) * v 0 + a (4 * r + 1) * v 1 + a (4 * r + 2) * v 2 + a (4 * r + 3)
def Wh (A a : Nat → Int) : Prop := ∀ k, k < 12 → A k = 65536 * a k
def Wv (V v : Nat → Int) : Prop := ∀ k, k < 3 → V k = 65536 * v k

theorem prod_whole {A B a b : Nat → Int} (hA : Wh A a) (hB : Wh B b) (h : prodE2 A B = 0) : Wh (prodM A B) (ipm a b) := fun k hk => by
  have he : pE A B k = 0 := firstN_zero h k hk
  rw [prod_ok h]
  unfold pV
  unfold pE at he
  unfold ipm
  have hl : pairL A (k / 4) (k % 4) = 65536 * (if k % 4 = 3 then a (4 * (k / 4) + 3) else 0) := by
    unfold pairL
    by_cases c : k % 4 = 3
    · rw [if_pos c, if_pos c]; exact hA _ (by omega)
    · rw [if_neg c, if_neg c]; rfl
  exact al_whole (a (4 * (k / 4))) _ _ (b (k % 4)) _ _ _ he (hA _ (by omega)) (hA _ (by omega)) (hA _ (by omega))
    (by unfold colM; rw [show 4 * 0 + k % 4 = k % 4 by omega]; exact hB _ (by omega)) (by unfold colM; exact hB _ (by omega)) (by unfold colM; exact hB _ (by omega)) hl
theorem app_whole {M V m v : Nat → Int} (hM : Wh M m) (hV : Wv V v) (hok : (okM M && okV3 V) = true) (h : appE M V = 0) : Wv (appV M V) (iap m v) := fun r hr => by
  have h4 : okM M = true ∧ okV3 V = true := by simpa using hok
  have hf := h
  rw [appE_yes h4.1 h4.2] at hf
  obtain ⟨h0, h1, h2⟩ := first3_zero hf
  have he : apEK M V r = 0 := by
    obtain rfl | rfl | rfl : r = 0 ∨ r = 1 ∨ r = 2 := by omega
    · exact h0
    · exact h1
    · exact h2
  rw [appV_of h, show ∀ x, gate 0 x = x from fun _ => rfl]
  unfold apK
  unfold apEK at he
  unfold iap
  exact al_whole (m (4 * r)) _ _ _ _ _ _ he (hM _ (by omega)) (hM _ (by omega)) (hM _ (by omega)) (hV 0 (by omega)) (hV 1 (by omega)) (hV 2 (by omega)) (hM _ (by omega))

theorem Wh.eq {A B a b : Nat → Int} (hA : Wh A a) (hB : Wh B b) (h : ∀ k, k < 12 → a k = b k) : ∀ k, k < 12 → A k = B k := fun k hk => by rw [hA k hk, hB k hk, h k hk]

theorem ipm_assoc (a b c : Nat → Int) : ∀ k, k < 12 → ipm (ipm a b) c k = ipm a (ipm b c) k := fun k hk => by
  rcases lt12 hk with rfl | rfl | rfl | rfl | rfl | rfl | rfl | rfl | rfl | rfl | rfl | rfl <;> (simp [ipm, Int.add_mul, Int.mul_add, Int.mul_assoc]; omega)
theorem iap_assoc (a b v : Nat → Int) : ∀ r, r < 3 → iap (ipm a b) v r = iap a (iap b v) r := fun r hr => by
  obtain rfl | rfl | rfl : r = 0 ∨ r = 1 ∨ r = 2 := by omega
  all_goals (simp [ipm, iap, Int.add_mul, Int.mul_add, Int.mul_assoc]; omega)

theorem mul2_ok {A B : Nat → Int} (hA : okM A = true) (hB : okM B = true) (h : (mulMs [A, B]).2 = 0) : prodE2 A B = 0 ∧ (mulMs [A, B]).1 = prodM A B := by
  have hr : rightM [A, B] = true := by unfold rightM; simp [hA, hB]
  rw [mulMs_cons hr] at h ⊢
  unfold foldM at h ⊢
  by_cases he : prodE2 A B = 0
  · rw [if_pos he]; exact ⟨he, rfl⟩
  · rw [if_neg he] at h; exact absurd h he
theorem mul2_of {A B : Nat → Int} (hA : okM A = true) (hB : okM B = true) (h : prodE2 A B = 0) : (mulMs [A, B]).2 = 0 ∧ (mulMs [A, B]).1 = prodM A B := by
  have hr : rightM [A, B] = true := by unfold rightM; simp [hA, hB]
  rw [mulMs_cons hr]
  unfold foldM
  rw [if_pos h]
  exact ⟨rfl, rfl⟩
/-- brackets: as far as nothing runs over -/
theorem brackets {A B C a b c : Nat → Int} (hA : Wh A a) (hB : Wh B b) (hC : Wh C c) (oA : okM A = true) (oB : okM B = true) (oC : okM C = true)
    (e : (mulMs [A, B]).2 = 0) (f : (mulMs [B, C]).2 = 0) (g : (mulMs [(mulMs [A, B]).1, C]).2 = 0) (h : (mulMs [A, (mulMs [B, C]).1]).2 = 0) :
    ∀ k, k < 12 → (mulMs [A, (mulMs [B, C]).1]).1 k = (mulMs [(mulMs [A, B]).1, C]).1 k := by
  obtain ⟨e1, e2⟩ := mul2_ok oA oB e
  obtain ⟨f1, f2⟩ := mul2_ok oB oC f
  rw [e2] at g ⊢
  rw [f2] at h ⊢
  obtain ⟨g1, g2⟩ := mul2_ok (prodM_ok A B) oC g
  obtain ⟨h1, h2⟩ := mul2_ok oA (prodM_ok B C) h
  rw [g2, h2]
  exact Wh.eq (prod_whole hA (prod_whole hB hC f1) h1) (prod_whole (prod_whole hA hB e1) hC g1) (fun k hk => (ipm_assoc a b c k hk).symm)
theorem app_ok {M V : Nat → Int} (h : appE M V = 0) : (okM M && okV3 V) = true := by
  by_cases c : (okM M && okV3 V) = true
  · exact c
  · rw [appE_no (by simpa using c)] at h; omega
/-- a product applied is one applied behind the other -/
theorem behind {A B X a b x : Nat → Int} (hA : Wh A a) (hB : Wh B b) (hX : Wv X x) (oA : okM A = true) (oB : okM B = true)
    (e : (mulMs [A, B]).2 = 0) (i : appE (mulMs [A, B]).1 X = 0) (j : appE B X = 0) (k : appE A (appV B X) = 0) :
    ∀ r, r < 3 → appV A (appV B X) r = appV (mulMs [A, B]).1 X r := fun r hr => by
  obtain ⟨e1, e2⟩ := mul2_ok oA oB e
  rw [e2] at i ⊢
  rw [app_whole hA (app_whole hB hX (app_ok j) j) (app_ok k) k r hr, app_whole (prod_whole hA hB e1) hX (app_ok i) i r hr, iap_assoc a b x r hr]

theorem mul_one_l {x : Int} (h : okB x = true) : mulV 65536 x = x ∧ mulE 65536 x = 0 := by
  have ho : (okB 65536 && okB x) = true := by rw [h]; decide
  have e : 65536 * x / 65536 = x := Int.mul_ediv_cancel_left _ (by decide)
  rw [(mul_yes ho).1, (mul_yes ho).2, e]
  unfold fitV fitE
  rw [if_pos h, if_pos h]
  exact ⟨rfl, rfl⟩
theorem mul_one_r {x : Int} (h : okB x = true) : mulV x 65536 = x ∧ mulE x 65536 = 0 := by
  have ho : (okB x && okB 65536) = true := by rw [h]; decide
  have e : x * 65536 / 65536 = x := Int.mul_ediv_cancel _ (by decide)
  rw [(mul_yes ho).1, (mul_yes ho).2, e]
  unfold fitV fitE
  rw [if_pos h, if_pos h]
  exact ⟨rfl, rfl⟩
theorem mul_zero_l {x : Int} (h : okB x = true) : mulV 0 x = 0 ∧ mulE 0 x = 0 := by
  have ho : (okB 0 && okB x) = true := by rw [h]; decide
  rw [(mul_yes ho).1, (mul_yes ho).2, Int.zero_mul]
  exact ⟨rfl, rfl⟩
theorem mul_zero_r {x : Int} (h : okB x = true) : mulV x 0 = 0 ∧ mulE x 0 = 0 := by
  have ho : (okB x && okB 0) = true := by rw [h]; decide
  rw [(mul_yes ho).1, (mul_yes ho).2, Int.mul_zero]
  exact ⟨rfl, rfl⟩
theorem add_four {p q r l s : Int} (hp : okB p = true) (hq : okB q = true) (hr : okB r = true) (hl : okB l = true) (hs : okB s = true) (e : p + q + r + l = s) : addV [p, q, r, l] = s ∧ addE [p, q, r, l] = 0 := by
  have ho : addOk [p, q, r, l] = true := by unfold addOk rightB; simp [hp, hq, hr, hl]
  have e' : [p, q, r, l].sum = s := by simp only [List.sum_cons, List.sum_nil]; omega
  rw [addV_yes ho, addE_yes ho, e']
  unfold fitV fitE
  rw [if_pos hs, if_pos hs]
  exact ⟨rfl, rfl⟩
theorem al_of {M : Nat → Int} {r : Nat} {V : Nat → Int} {l p q s z : Int} (h0 : mulV (M (4 * r + 0)) (V 0) = p ∧ mulE (M (4 * r + 0)) (V 0) = 0) (h1 : mulV (M (4 * r + 1)) (V 1) = q ∧ mulE (M (4 * r + 1)) (V 1) = 0) (h2 : mulV (M (4 * r + 2)) (V 2) = s ∧ mulE (M (4 * r + 2)) (V 2) = 0)
    (ha : addV [p, q, s, l] = z ∧ addE [p, q, s, l] = 0) : alV M r V l = z ∧ alE M r V l = 0 := by
  have hf : alF M r V = 0 := by unfold alF first3 alPE; rw [h0.2, h1.2, h2.2]; rfl
  have hL : alL M r V l = [p, q, s, l] := by unfold alL alP; rw [h0.1, h1.1, h2.1]
  rw [(al_yes l hf).1, (al_yes l hf).2, hL]
  exact ha
/-- a row of what leaves all -/
theorem al_same {V : Nat → Int} (h : ∀ j, j < 3 → okB (V j) = true) {r : Nat} (hr : r < 3) : alV sameM r V 0 = V r ∧ alE sameM r V 0 = 0 := by
  have o0 := h 0 (by omega)
  have o1 := h 1 (by omega)
  have o2 := h 2 (by omega)
  have z : okB 0 = true := by decide
  obtain rfl | rfl | rfl : r = 0 ∨ r = 1 ∨ r = 2 := by omega
  · exact al_of (mul_one_l o0) (mul_zero_l o1) (mul_zero_l o2) (add_four o0 z z z o0 (by omega))
  · exact al_of (mul_zero_l o0) (mul_one_l o1) (mul_zero_l o2) (add_four z o1 z z o1 (by omega))
  · exact al_of (mul_zero_l o0) (mul_zero_l o1) (mul_one_l o2) (add_four z z o2 z o2 (by omega))
/-- a column of it -/
theorem al_col {M : Nat → Int} (h : okM M = true) {r p : Nat} (hr : r < 3) (hp : p < 4) : alV M r (colM sameM p) (pairL M r p) = M (4 * r + p) ∧ alE M r (colM sameM p) (pairL M r p) = 0 := by
  have o0 : okB (M (4 * r + 0)) = true := okM_at h (by omega)
  have o1 : okB (M (4 * r + 1)) = true := okM_at h (by omega)
  have o2 : okB (M (4 * r + 2)) = true := okM_at h (by omega)
  have o3 : okB (M (4 * r + 3)) = true := okM_at h (by omega)
  have z : okB 0 = true := by decide
  obtain rfl | rfl | rfl | rfl : p = 0 ∨ p = 1 ∨ p = 2 ∨ p = 3 := by omega
  · exact al_of (mul_one_r o0) (mul_zero_r o1) (mul_zero_r o2) (add_four o0 z z z o0 (by show _ + (0 : Int) + 0 + 0 = _; omega))
  · exact al_of (mul_zero_r o0) (mul_one_r o1) (mul_zero_r o2) (add_four z o1 z z o1 (by show (0 : Int) + _ + 0 + 0 = _; omega))
  · exact al_of (mul_zero_r o0) (mul_zero_r o1) (mul_one_r o2) (add_four z z o2 z o2 (by show (0 : Int) + 0 + _ + 0 = _; omega))
  · exact al_of (mul_zero_r o0) (mul_zero_r o1) (mul_zero_r o2) (add_four z z z o3 o3 (by show (0 : Int) + 0 + 0 + _ = _; unfold pairL; rw [if_pos rfl]; omega))

theorem same_ok : okM sameM = true := by decide
theorem pairL_same {r p : Nat} (hr : r < 3) : pairL sameM r p = 0 := by
  unfold pairL
  by_cases c : p = 3
  · rw [if_pos c]
    obtain rfl | rfl | rfl : r = 0 ∨ r = 1 ∨ r = 2 := by omega
    · rfl
    · rfl
    · rfl
  · rw [if_neg c]
theorem same_ahead {M : Nat → Int} (h : okM M = true) : (mulMs [sameM, M]).2 = 0 ∧ ∀ k, k < 12 → (mulMs [sameM, M]).1 k = M k := by
  have hk : ∀ k, k < 12 → pV sameM M k = M k ∧ pE sameM M k = 0 := fun k hk => by
    unfold pV pE
    rw [pairL_same (by omega)]
    have := al_same (V := colM M (k % 4)) (fun j hj => okM_at h (by omega)) (r := k / 4) (by omega)
    rw [this.1, this.2]
    unfold colM
    rw [show 4 * (k / 4) + k % 4 = k by omega]
    exact ⟨rfl, rfl⟩
  have he : prodE2 sameM M = 0 := firstN_none fun j hj => (hk j hj).2
  obtain ⟨e1, e2⟩ := mul2_of same_ok h he
  refine ⟨e1, fun k hk' => ?_⟩
  rw [e2, prod_ok he]
  exact (hk k hk').1
theorem same_behind {M : Nat → Int} (h : okM M = true) : (mulMs [M, sameM]).2 = 0 ∧ ∀ k, k < 12 → (mulMs [M, sameM]).1 k = M k := by
  have hk : ∀ k, k < 12 → pV M sameM k = M k ∧ pE M sameM k = 0 := fun k hk => by
    unfold pV pE
    have := al_col h (r := k / 4) (p := k % 4) (by omega) (by omega)
    rw [this.1, this.2, show 4 * (k / 4) + k % 4 = k by omega]
    exact ⟨rfl, rfl⟩
  have he : prodE2 M sameM = 0 := firstN_none fun j hj => (hk j hj).2
  obtain ⟨e1, e2⟩ := mul2_of h same_ok he
  refine ⟨e1, fun k hk' => ?_⟩
  rw [e2, prod_ok he]
  exact (hk k hk').1
theorem okV3_at {V : Nat → Int} (h : okV3 V = true) {j : Nat} (hj : j < 3) : okB (V j) = true := by
  obtain ⟨h0, h1, h2⟩ := ok3_parts h
  obtain rfl | rfl | rfl : j = 0 ∨ j = 1 ∨ j = 2 := by omega
  · exact h0
  · exact h1
  · exact h2
theorem same_app {V : Nat → Int} (h : okV3 V = true) : appE sameM V = 0 ∧ ∀ r, r < 3 → appV sameM V r = V r := by
  have hk : ∀ r, r < 3 → apK sameM V r = V r ∧ apEK sameM V r = 0 := fun r hr => by
    unfold apK apEK
    rw [show sameM (4 * r + 3) = 0 from pairL_same (p := 3) hr]
    exact al_same (fun j hj => okV3_at h hj) hr
  have he : appE sameM V = 0 := by
    rw [appE_yes same_ok h, (hk 0 (by omega)).2, (hk 1 (by omega)).2, (hk 2 (by omega)).2]; rfl
  refine ⟨he, fun r hr => ?_⟩
  rw [appV_of he]
  exact (hk r hr).1

end Go.Proofs.Ytjdoneacbnalaaa
