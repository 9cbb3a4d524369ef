/-
  Inside, as plain arithmetic: what lies between two numbers, its product lies between theirs; so with sums, with boxes carried, spans and joins.
-/
import Derived.Test.YthdgldoailjhhaaShpE
import Derived.Test.YthdgldoailjhhaaAffI
namespace Go.Proofs.Ythdgldoailjhhaa
open Go.RowKit

theorem mul_parts {n x : Int} (h : mulE n x = 0) : okB n = true ∧ okB x = true ∧ okB (n * x / 65536) = true ∧ mulV n x = n * x / 65536 := by
  by_cases ho : (okB n && okB x) = true
  · have h4 : okB n = true ∧ okB x = true := by simpa using ho
    rw [(mul_yes ho).2] at h
    unfold fitE at h
    by_cases hk : okB (n * x / 65536) = true
    · refine ⟨h4.1, h4.2, hk, ?_⟩
      rw [(mul_yes ho).1]
      unfold fitV
      rw [if_pos hk]
    · rw [if_neg hk] at h; omega
  · rw [(mul_no (by simpa using ho)).2] at h; omega
theorem mul_of {n x : Int} (hn : okB n = true) (hx : okB x = true) (hk : okB (n * x / 65536) = true) : mulE n x = 0 ∧ mulV n x = n * x / 65536 := by
  have ho : (okB n && okB x) = true := by rw [hn, hx]; rfl
  rw [(mul_yes ho).1, (mul_yes ho).2]
  unfold fitE fitV
  rw [if_pos hk, if_pos hk]
  exact ⟨rfl, rfl⟩
theorem okB_mid {x v y : Int} (hx : okB x = true) (hy : okB y = true) (h1 : x ≤ v) (h2 : v ≤ y) : okB v = true := by
  obtain ⟨a, _⟩ := okB_iff.1 hx
  obtain ⟨_, b⟩ := okB_iff.1 hy
  exact okB_yes (by omega) (by omega)
theorem mul_mid {n x v y : Int} (h1 : x ≤ v) (h2 : v ≤ y) (e1 : mulE n x = 0) (e2 : mulE n y = 0) :
    mulE n v = 0 ∧ min (mulV n x) (mulV n y) ≤ mulV n v ∧ mulV n v ≤ max (mulV n x) (mulV n y) := by
  obtain ⟨on, ox, kx, vx⟩ := mul_parts e1
  obtain ⟨_, oy, ky, vy⟩ := mul_parts e2
  have ov := okB_mid ox oy h1 h2
  have hb : min (n * x / 65536) (n * y / 65536) ≤ n * v / 65536 ∧ n * v / 65536 ≤ max (n * x / 65536) (n * y / 65536) := by
    by_cases hn : 0 ≤ n
    · have a := Int.ediv_le_ediv (c := 65536) (by decide) (Int.mul_le_mul_of_nonneg_left h1 hn)
      have b := Int.ediv_le_ediv (c := 65536) (by decide) (Int.mul_le_mul_of_nonneg_left h2 hn)
      omega
    · have a := Int.ediv_le_ediv (c := 65536) (by decide) (Int.mul_le_mul_of_nonpos_left (show n ≤ 0 by omega) h1)
      have b := Int.ediv_le_ediv (c := 65536) (by decide) (Int.mul_le_mul_of_nonpos_left (show n ≤ 0 by omega) h2)
      omega
  have kv : okB (n * v / 65536) = true := by
    obtain ⟨a1, a2⟩ := okB_iff.1 kx
    obtain ⟨b1, b2⟩ := okB_iff.1 ky
    exact okB_yes (by omega) (by omega)
  obtain ⟨ev, vv⟩ := mul_of on ov kv
  rw [vx, vy, vv]
  exact ⟨ev, hb⟩
theorem add_parts {zs : List Int} (h : addE zs = 0) : rightB zs = true ∧ okB zs.sum = true ∧ addV zs = zs.sum := by
  by_cases ho : addOk zs = true
  · rw [addE_yes ho] at h
    unfold fitE at h
    by_cases hk : okB zs.sum = true
    · refine ⟨?_, hk, ?_⟩
      · have h4 : decide (zs.length ≤ 1024) = true ∧ rightB zs = true := by simpa [addOk] using ho
        exact h4.2
      · rw [addV_yes ho]; unfold fitV; rw [if_pos hk]
    · rw [if_neg hk] at h; omega
  · rw [addE_no (by simpa using ho)] at h; omega
theorem add_of {zs : List Int} (hl : zs.length ≤ 1024) (hr : rightB zs = true) (hk : okB zs.sum = true) : addE zs = 0 ∧ addV zs = zs.sum := by
  have ho : addOk zs = true := addOk_yes rfl hl hr
  rw [addE_yes ho, addV_yes ho]
  unfold fitE fitV
  rw [if_pos hk, if_pos hk]
  exact ⟨rfl, rfl⟩

theorem inAt_iff {B V : Nat → Int} {k : Nat} : inAt B V k = true ↔ B k ≤ V k ∧ V k ≤ B (3 + k) := by
  unfold inAt
  simp
theorem inBox_iff {B V : Nat → Int} : inBox B V = true ↔ ∀ k, k < 3 → B k ≤ V k ∧ V k ≤ B (3 + k) := by
  unfold inBox
  constructor
  · intro h k hk
    have h3 : (inAt B V 0 = true ∧ inAt B V 1 = true) ∧ inAt B V 2 = true := by simpa using h
    obtain rfl | rfl | rfl : k = 0 ∨ k = 1 ∨ k = 2 := by omega
    · exact inAt_iff.1 h3.1.1
    · exact inAt_iff.1 h3.1.2
    · exact inAt_iff.1 h3.2
  · intro h
    rw [inAt_iff.2 (h 0 (by omega)), inAt_iff.2 (h 1 (by omega)), inAt_iff.2 (h 2 (by omega))]
    rfl
theorem en_parts {N B : Nat → Int} {t : Int} (h : enE N B t = 0) : (∀ k, k < 3 → mulE (N k) (B k) = 0 ∧ mulE (N k) (B (3 + k)) = 0) ∧ addE (enLoL N B t) = 0 ∧ addE (enHiL N B t) = 0 ∧ enLo N B t = addV (enLoL N B t) ∧ enHi N B t = addV (enHiL N B t) := by
  have hv : enLo N B t = addV (enLoL N B t) ∧ enHi N B t = addV (enHiL N B t) := by unfold enLo enHi; rw [h]; exact ⟨rfl, rfl⟩
  unfold enE at h
  by_cases c : (enBad N B 0 || enBad N B 1 || enBad N B 2) = true
  · rw [if_pos c] at h; omega
  · rw [if_neg c] at h
    by_cases d : ((addE (enLoL N B t) != 0) || (addE (enHiL N B t) != 0)) = true
    · rw [if_pos d] at h; omega
    · have c3 : (enBad N B 0 = false ∧ enBad N B 1 = false) ∧ enBad N B 2 = false := by simpa using c
      have d2 : addE (enLoL N B t) = 0 ∧ addE (enHiL N B t) = 0 := by simpa using d
      refine ⟨fun k hk => ?_, d2.1, d2.2, hv.1, hv.2⟩
      have hb : enBad N B k = false := by
        obtain rfl | rfl | rfl : k = 0 ∨ k = 1 ∨ k = 2 := by omega
        · exact c3.1.1
        · exact c3.1.2
        · exact c3.2
      unfold enBad at hb
      simpa using hb
/-- products with what is in a box, and one number more, added: between the ends -/
theorem en_mid {N B V : Nat → Int} {t : Int} (hin : inBox B V = true) (h : enE N B t = 0) :
    (∀ k, k < 3 → mulE (N k) (V k) = 0) ∧ okB (mulV (N 0) (V 0) + mulV (N 1) (V 1) + mulV (N 2) (V 2) + t) = true ∧ rightB [mulV (N 0) (V 0), mulV (N 1) (V 1), mulV (N 2) (V 2), t] = true ∧
    enLo N B t ≤ mulV (N 0) (V 0) + mulV (N 1) (V 1) + mulV (N 2) (V 2) + t ∧ mulV (N 0) (V 0) + mulV (N 1) (V 1) + mulV (N 2) (V 2) + t ≤ enHi N B t := by
  obtain ⟨hm, hl, hh, el, eh⟩ := en_parts h
  have hi := inBox_iff.1 hin
  obtain ⟨m0, a0, b0⟩ := mul_mid (hi 0 (by omega)).1 (hi 0 (by omega)).2 (hm 0 (by omega)).1 (hm 0 (by omega)).2
  obtain ⟨m1, a1, b1⟩ := mul_mid (hi 1 (by omega)).1 (hi 1 (by omega)).2 (hm 1 (by omega)).1 (hm 1 (by omega)).2
  obtain ⟨m2, a2, b2⟩ := mul_mid (hi 2 (by omega)).1 (hi 2 (by omega)).2 (hm 2 (by omega)).1 (hm 2 (by omega)).2
  obtain ⟨rl, kl, vl⟩ := add_parts hl
  obtain ⟨rh, kh, vh⟩ := add_parts hh
  rw [el, eh, vl, vh]
  have sl : (enLoL N B t).sum = t + min (mulV (N 0) (B 0)) (mulV (N 0) (B (3 + 0))) + min (mulV (N 1) (B 1)) (mulV (N 1) (B (3 + 1))) + min (mulV (N 2) (B 2)) (mulV (N 2) (B (3 + 2))) := by
    unfold enLoL enX enY; simp only [List.sum_cons, List.sum_nil]; omega
  have sh : (enHiL N B t).sum = t + max (mulV (N 0) (B 0)) (mulV (N 0) (B (3 + 0))) + max (mulV (N 1) (B 1)) (mulV (N 1) (B (3 + 1))) + max (mulV (N 2) (B 2)) (mulV (N 2) (B (3 + 2))) := by
    unfold enHiL enX enY; simp only [List.sum_cons, List.sum_nil]; omega
  rw [sl] at kl
  rw [sh] at kh
  rw [sl, sh]
  obtain ⟨kl1, kl2⟩ := okB_iff.1 kl
  obtain ⟨kh1, kh2⟩ := okB_iff.1 kh
  have ot : okB t = true := by
    unfold enLoL rightB at rl
    rw [List.all_cons, Bool.and_eq_true] at rl
    exact rl.1
  have p0 := (mul_parts m0).2.2.1
  have p1 := (mul_parts m1).2.2.1
  have p2 := (mul_parts m2).2.2.1
  rw [← (mul_parts m0).2.2.2] at p0
  rw [← (mul_parts m1).2.2.2] at p1
  rw [← (mul_parts m2).2.2.2] at p2
  refine ⟨fun k hk => ?_, okB_yes (by omega) (by omega), ?_, by omega, by omega⟩
  · obtain rfl | rfl | rfl : k = 0 ∨ k = 1 ∨ k = 2 := by omega
    · exact m0
    · exact m1
    · exact m2
  · unfold rightB
    simp [p0, p1, p2, ot]

/-- a row applied to what is in a box -/
theorem al_mid {M B V : Nat → Int} {r : Nat} {t : Int} (hin : inBox B V = true) (h : enE (rowM M r) B t = 0) : alE M r V t = 0 ∧ enLo (rowM M r) B t ≤ alV M r V t ∧ alV M r V t ≤ enHi (rowM M r) B t := by
  obtain ⟨hm, hk, hr, hlo, hhi⟩ := en_mid hin h
  have hf : alF M r V = 0 := by
    unfold alF first3 alPE
    rw [show mulE (M (4 * r + 0)) (V 0) = 0 from hm 0 (by omega), show mulE (M (4 * r + 1)) (V 1) = 0 from hm 1 (by omega), show mulE (M (4 * r + 2)) (V 2) = 0 from hm 2 (by omega)]
    rfl
  have hL : alL M r V t = [mulV (rowM M r 0) (V 0), mulV (rowM M r 1) (V 1), mulV (rowM M r 2) (V 2), t] := rfl
  have hs : (alL M r V t).sum = mulV (rowM M r 0) (V 0) + mulV (rowM M r 1) (V 1) + mulV (rowM M r 2) (V 2) + t := by
    rw [hL]; simp only [List.sum_cons, List.sum_nil]; omega
  obtain ⟨a1, a2⟩ := add_of (zs := alL M r V t) (by rw [hL]; simp) (by rw [hL]; exact hr) (by rw [hs]; exact hk)
  rw [(al_yes t hf).1, (al_yes t hf).2, a1, a2, hs]
  exact ⟨rfl, hlo, hhi⟩
theorem boxTo_parts {B : Nat → Int} (h : okBox B = true) : rightV [(B 0, B 1, B 2), (B 3, B 4, B 5)] = true ∧ B 0 ≤ B 3 ∧ B 1 ≤ B 4 ∧ B 2 ≤ B 5 := by
  unfold okBox boxTo boxTo boxTo boxTo at h
  have h4 : ((rightV [(B 0, B 1, B 2), (B 3, B 4, B 5)] = true ∧ B 0 ≤ B (3 + 0)) ∧ B 1 ≤ B (3 + 1)) ∧ B 2 ≤ B (3 + 2) := by simpa using h
  exact ⟨h4.1.1.1, h4.1.1.2, h4.1.2, h4.2⟩
theorem okBox_at {B : Nat → Int} (h : okBox B = true) {k : Nat} (hk : k < 6) : okB (B k) = true := by
  have hr := (boxTo_parts h).1
  rw [rightV2] at hr
  obtain ⟨ha, hb⟩ := ok6_parts hr
  obtain ⟨a0, a1, a2⟩ := ok3_parts ha
  obtain ⟨b0, b1, b2⟩ := ok3_parts hb
  rcases lt6 hk with rfl | rfl | rfl | rfl | rfl | rfl
  · exact a0
  · exact a1
  · exact a2
  · exact b0
  · exact b1
  · exact b2
theorem in_ok {B V : Nat → Int} (h : okBox B = true) (hin : inBox B V = true) : okV3 V = true := by
  have hi := inBox_iff.1 hin
  have o : ∀ k, k < 3 → okB (V k) = true := fun k hk => okB_mid (okBox_at h (by omega)) (okBox_at h (by omega)) (hi k hk).1 (hi k hk).2
  unfold okV3 ok3 rightB
  simp [o 0 (by omega), o 1 (by omega), o 2 (by omega)]
/-- INSIDE: a vector in a box, and a matrix applied, is in the box that it carries -/
theorem carry_mid {M B V : Nat → Int} (hin : inBox B V = true) (h : carE M B = 0) : appE M V = 0 ∧ inBox (carV M B) (appV M V) = true := by
  have hok : okM M = true ∧ okBox B = true := by
    by_cases c : carOk M B = true
    · simpa [carOk] using c
    · rw [carE_no (by simpa using c)] at h; omega
  have hf := h
  rw [carE_yes hok.1 hok.2] at hf
  have hz : ∀ r, r < 3 → caE M B r = 0 := by
    unfold first3 at hf
    by_cases h0 : caE M B 0 = 0
    · rw [if_pos h0] at hf
      by_cases h1 : caE M B 1 = 0
      · rw [if_pos h1] at hf
        intro r hr
        obtain rfl | rfl | rfl : r = 0 ∨ r = 1 ∨ r = 2 := by omega
        · exact h0
        · exact h1
        · exact hf
      · rw [if_neg h1] at hf; exact absurd hf h1
    · rw [if_neg h0] at hf; exact absurd hf h0
  have hm : ∀ r, r < 3 → apEK M V r = 0 ∧ caLo M B r ≤ apK M V r ∧ apK M V r ≤ caHi M B r := fun r hr => al_mid hin (hz r hr)
  have ha : appE M V = 0 := by
    rw [appE_yes hok.1 (in_ok hok.2 hin), (hm 0 (by omega)).1, (hm 1 (by omega)).1, (hm 2 (by omega)).1]; rfl
  refine ⟨ha, inBox_iff.2 fun k hk => ?_⟩
  rw [carV_of h, carV_of h, appV_of ha]
  show caK M B k ≤ apK M V k ∧ apK M V k ≤ caK M B (3 + k)
  unfold caK
  rw [if_pos hk, if_neg (by omega), show 3 + k - 3 = k by omega]
  exact (hm k hk).2
theorem bet_low (p x : Int) : bet lessB p x ≤ p ∧ bet lessB p x ≤ x := by
  unfold bet lessB
  by_cases c : x < p
  · rw [if_pos (by simpa using c)]; omega
  · rw [if_neg (by simpa using c)]; omega
theorem bet_high (p x : Int) : p ≤ bet moreB p x ∧ x ≤ bet moreB p x := by
  unfold bet moreB
  by_cases c : x > p
  · rw [if_pos (by simpa using c)]; omega
  · rw [if_neg (by simpa using c)]; omega
/-- a vector's distance is in the span -/
theorem span_mid {P B V : Nat → Int} (hin : inBox B V = true) (h : spnE P B = 0) (hd : disE P V = 0) : spnLo P B ≤ disV P V ∧ disV P V ≤ spnHi P B := by
  have hs : spnOk P B = true := by
    by_cases c : spnOk P B = true
    · exact c
    · unfold spnE at h; rw [if_neg c] at h; omega
  have hdk : disOk P V = true := by
    by_cases c : disOk P V = true
    · exact c
    · unfold disE at hd; rw [if_neg c] at hd; omega
  unfold spnE at h
  rw [if_pos hs] at h
  unfold disE at hd
  rw [if_pos hdk] at hd
  unfold spnLo spnHi disV
  rw [if_pos hs, if_pos hs, if_pos hdk]
  by_cases h0 : dsE0 P V = 0
  · rw [if_pos h0] at hd ⊢
    obtain ⟨hm, hk, hr, hlo, hhi⟩ := en_mid hin h
    have hds : dsV0 P V = mulV (P 0) (V 0) + mulV (P 1) (V 1) + mulV (P 2) (V 2) := by
      have h6 : ok6 (P 0) (P 1) (P 2) (V 0) (V 1) (V 2) = true := by
        by_cases c : ok6 (P 0) (P 1) (P 2) (V 0) (V 1) (V 2) = true
        · exact c
        · unfold dsE0 at h0; rw [(dot_no (by simpa using c)).2] at h0; omega
      have hp : prodE (P 0) (P 1) (P 2) (V 0) (V 1) (V 2) = 0 := by
        unfold prodE first3
        rw [hm 0 (by omega), hm 1 (by omega), hm 2 (by omega)]; rfl
      unfold dsE0 at h0
      rw [(dot_yes h6 hp).2] at h0
      unfold dsV0
      rw [(dot_yes h6 hp).1, (add_parts h0).2.2]
      simp only [List.sum_cons, List.sum_nil]
      omega
    rw [(add_parts hd).2.2]
    simp only [List.sum_cons, List.sum_nil]
    rw [hds]
    omega
  · rw [if_neg h0] at hd; exact absurd hd h0

/-- what joins two boxes has what the first one has -/
theorem join_mid {B C V : Nat → Int} (hin : inBox B V = true) (h : joinE [B, C] = 0) : inBox (joinV [B, C]) V = true := by
  have hok : joinOk [B, C] = true := by
    by_cases c : joinOk [B, C] = true
    · exact c
    · rw [(join_no (by simpa using c)).1] at h; omega
  have hi := inBox_iff.1 hin
  refine inBox_iff.2 fun k hk => ?_
  rw [(join_yes hok).2, (join_yes hok).2]
  unfold joinK
  rw [if_pos hk, if_neg (by omega), show 3 + k - 3 = k by omega]
  obtain rfl | rfl | rfl : k = 0 ∨ k = 1 ∨ k = 2 := by omega
  · exact ⟨Int.le_trans (bet_low (B 0) (C 0)).1 (hi 0 (by omega)).1, Int.le_trans (hi 0 (by omega)).2 (bet_high (B 3) (C 3)).1⟩
  · exact ⟨Int.le_trans (bet_low (B 1) (C 1)).1 (hi 1 (by omega)).1, Int.le_trans (hi 1 (by omega)).2 (bet_high (B 4) (C 4)).1⟩
  · exact ⟨Int.le_trans (bet_low (B 2) (C 2)).1 (hi 2 (by omega)).1, Int.le_trans (hi 2 (by omega)).2 (bet_high (B 5) (C 5)).1⟩

end Go.Proofs.Ythdgldoailjhhaa
