/-
  With and Without, bit by bit: plain arithmetic of parts.
-/
import Derived.Test.YtpobnmcjmclgbaaPrtO
namespace Go.Proofs.Ytpobnmcjmclgbaa
open Go.RowKit

theorem eqT_pl {P Q : PT} (h : eqT P Q = true) : pl P = pl Q := by
  obtain ⟨h1, M, m, B, p, a, c, l⟩ := P
  obtain ⟨h2, N, n, C, q, b, d, k⟩ := Q
  unfold eqT eqP eq12 eq6 at h
  simp only [Bool.and_eq_true, beq_iff_eq] at h
  obtain ⟨⟨⟨⟨⟨⟨⟨e1, ⟨⟨⟨⟨⟨⟨⟨⟨⟨⟨⟨m0, m1⟩, m2⟩, m3⟩, m4⟩, m5⟩, m6⟩, m7⟩, m8⟩, m9⟩, m10⟩, m11⟩⟩, e2⟩, ⟨⟨b0, b1⟩, b2⟩, ⟨b3, b4⟩, b5⟩, e3⟩, e4⟩, e5⟩, e6⟩ := h
  unfold pl PL
  simp only [e1, m0, m1, m2, m3, m4, m5, m6, m7, m8, m9, m10, m11, e2, b0, b1, b2, b3, b4, b5, e3, e4, e5, e6]
theorem pl_eqT {P Q : PT} (h : pl P = pl Q) : eqT P Q = true := by
  obtain ⟨h1, M, m, B, p, a, c, l⟩ := P
  obtain ⟨h2, N, n, C, q, b, d, k⟩ := Q
  unfold pl PL at h
  simp only [List.cons.injEq, Value.int.injEq, Value.bool.injEq, true_and, and_true] at h
  obtain ⟨e1, m0, m1, m2, m3, m4, m5, m6, m7, m8, m9, m10, m11, e2, b0, b1, b2, b3, b4, b5, e3, e4, e5, e6⟩ := h
  unfold eqT eqP eq12 eq6
  simp only [e1, m0, m1, m2, m3, m4, m5, m6, m7, m8, m9, m10, m11, e2, b0, b1, b2, b3, b4, b5, e3, e4, e5, e6]
  simp
theorem pl_head {P Q : PT} (h : pl P = pl Q) : P.1 = Q.1 := by
  unfold pl PL at h
  simp only [List.cons.injEq, Value.int.injEq, true_and] at h
  exact h.1
theorem right_bare {P : PT} (h : rightT P = true) : pl (pickT P.1 P) = pl P := by
  rw [right_split, Bool.and_eq_true] at h
  exact eqT_pl h.2
theorem stepO_congr {P Q : PT} (h : pl P = pl Q) (k : Int) : pl (stepO P k) = pl (stepO Q k) := by
  have e : ∀ P : PT, pl (stepO P k) = layP k ((pl P).set 0 (.int .i64 (subK P.1 k))) (pl zT) := fun P => by unfold stepO; rw [← layT_pl]; rfl
  rw [e, e, h, pl_head h]
theorem woutT_congr : ∀ (ks : List Int) {P Q : PT}, pl P = pl Q → pl (woutT P ks) = pl (woutT Q ks)
  | [], _, _, h => h
  | k :: r, _, _, h => woutT_congr r (stepO_congr h k)
theorem pick_step {s k : Int} (P : PT) (hs : 0 ≤ s ∧ s ≤ 31) (hk : kOk k = true) : stepO (pickT s P) k = pickT (subK s k) P := by
  have hb := subK_bound (k := k) hs
  have e1 : s % 32 = s := by omega
  have e2 : subK s k % 32 = subK s k := by omega
  have f0 := sub_has hs hk (j := 0) (by omega)
  have f1 := sub_has hs hk (j := 1) (by omega)
  have f2 := sub_has hs hk (j := 2) (by omega)
  have f3 := sub_has hs hk (j := 3) (by omega)
  unfold pickT
  rw [f0, f1, f2, f3, e2]
  unfold stepO
  rw [e1]
  clear f0 f1 f2 f3 e1 e2 hb hs
  generalize hasN s 0 = a0
  generalize hasN s 1 = a1
  generalize hasN s 2 = a2
  generalize hasN s 3 = a3
  rcases kOk_cases hk with rfl | rfl | rfl | rfl | rfl
  · cases a0 <;> cases a1 <;> cases a2 <;> cases a3 <;> rfl
  · cases a0 <;> cases a1 <;> cases a2 <;> cases a3 <;> rfl
  · cases a0 <;> cases a1 <;> cases a2 <;> cases a3 <;> rfl
  · cases a0 <;> cases a1 <;> cases a2 <;> cases a3 <;> rfl
  · cases a0 <;> cases a1 <;> cases a2 <;> cases a3 <;> rfl
theorem pick_wout : ∀ (ks : List Int) (s : Int) (P : PT), 0 ≤ s ∧ s ≤ 31 → ksOk ks = true → woutT (pickT s P) ks = pickT (ks.foldl subK s) P
  | [], _, _, _, _ => rfl
  | k :: r, s, P, hs, h => by
    unfold ksOk at h
    rw [List.all_cons, Bool.and_eq_true] at h
    have : woutT (pickT s P) (k :: r) = woutT (stepO (pickT s P) k) r := rfl
    rw [this, pick_step P hs h.1, pick_wout r _ P (subK_bound hs) h.2]
    rfl
theorem sub_not {s : Int} {ks : List Int} (hs : 0 ≤ s ∧ s ≤ 31) (h : ksOk ks = true) : ks.foldl subK s = bits .andNot .i64 s (ksS ks) :=
  set_ext (sub_bound ks s hs) (not_bound hs (ksS_bound h)) (fun j hj => by rw [fold_sub ks s hs h hj, not_has hs (ksS_bound h) hj, ksS_has h hj])
theorem wout_pick {P : PT} {ks : List Int} (hr : rightT P = true) (h : ksOk ks = true) : pl (woutT P ks) = pl (pickT (ks.foldl subK P.1) P) := by
  rw [← woutT_congr ks (right_bare hr), pick_wout ks P.1 P (right_bound hr) h]
/-- the program's Without and the reference's are one -/
theorem wout_same (P : PT) (ks : List Int) : pl (woutPV P ks) = pl (woutV P ks) := by
  unfold woutPV woutV
  by_cases c : woutOk P ks = true
  · rw [if_pos c, if_pos c]
    unfold woutOk at c
    rw [Bool.and_eq_true] at c
    rw [wout_pick c.1 c.2, sub_not (right_bound c.1) c.2]
    rfl
  · rw [if_neg c, if_neg c]
/-! what may be, stays so -/
theorem right_step {P Q : PT} {k : Int} (hp : rightT P = true) (hq : rightT Q = true) (hk : hasB Q.1 k = true) : rightT (stepW Q P k) = true := by
  have hb := right_bound hp
  have hok := has_kOk hk
  have hb2 := addK_bound hb hok
  have f0 := add_has hb hok (j := 0) (by omega)
  have f1 := add_has hb hok (j := 1) (by omega)
  have f2 := add_has hb hok (j := 2) (by omega)
  have f3 := add_has hb hok (j := 3) (by omega)
  have f4 := add_has hb hok (j := 4) (by omega)
  obtain ⟨h, M, m, B, p, a, c, l⟩ := P
  obtain ⟨h2, N, n, C, q, b, d, k2⟩ := Q
  unfold rightT rightP kindsB kindB restB at hp hq
  simp only [Bool.and_eq_true] at hp hq
  obtain ⟨⟨_, ⟨⟨⟨k0, k1⟩, k2⟩, k3⟩, k4⟩, ⟨⟨⟨⟨r0, r1⟩, r2⟩, r3⟩, r4⟩, r5⟩ := hp
  obtain ⟨⟨_, ⟨⟨⟨_, _⟩, _⟩, _⟩, _⟩, ⟨⟨⟨⟨q0, q1⟩, q2⟩, q3⟩, q4⟩, q5⟩ := hq
  unfold rightT rightP kindsB kindB restB stepW
  simp only [Bool.and_eq_true, decide_eq_true hb2.1, decide_eq_true hb2.2]
  clear hb2 hb hk
  rcases kOk_cases hok with rfl | rfl | rfl | rfl | rfl
  · exact ⟨⟨⟨trivial, trivial⟩, ⟨⟨⟨by rw [f0]; simp, by rw [f1]; simpa [layT, zkB] using k1⟩, by rw [f2]; simpa [layT, zkB] using k2⟩, by rw [f3]; simpa [layT, zkB] using k3⟩, by simp [zkB]⟩, ⟨⟨⟨⟨q0, r1⟩, r2⟩, r3⟩, r4⟩, r5⟩
  · exact ⟨⟨⟨trivial, trivial⟩, ⟨⟨⟨by rw [f0]; simpa [layT, zkB] using k0, by rw [f1]; simp⟩, by rw [f2]; simpa [layT, zkB] using k2⟩, by rw [f3]; simpa [layT, zkB] using k3⟩, by simp [zkB]⟩, ⟨⟨⟨⟨r0, q1⟩, q2⟩, r3⟩, r4⟩, r5⟩
  · exact ⟨⟨⟨trivial, trivial⟩, ⟨⟨⟨by rw [f0]; simpa [layT, zkB] using k0, by rw [f1]; simpa [layT, zkB] using k1⟩, by rw [f2]; simp⟩, by rw [f3]; simpa [layT, zkB] using k3⟩, by simp [zkB]⟩, ⟨⟨⟨⟨r0, r1⟩, r2⟩, q3⟩, q4⟩, r5⟩
  · exact ⟨⟨⟨trivial, trivial⟩, ⟨⟨⟨by rw [f0]; simpa [layT, zkB] using k0, by rw [f1]; simpa [layT, zkB] using k1⟩, by rw [f2]; simpa [layT, zkB] using k2⟩, by rw [f3]; simp⟩, by simp [zkB]⟩, ⟨⟨⟨⟨r0, r1⟩, r2⟩, r3⟩, r4⟩, q5⟩
  · exact ⟨⟨⟨trivial, trivial⟩, ⟨⟨⟨by rw [f0]; simpa [layT, zkB] using k0, by rw [f1]; simpa [layT, zkB] using k1⟩, by rw [f2]; simpa [layT, zkB] using k2⟩, by rw [f3]; simpa [layT, zkB] using k3⟩, by rw [f4]; simp⟩, ⟨⟨⟨⟨r0, r1⟩, r2⟩, r3⟩, r4⟩, r5⟩
theorem right_with : ∀ (ks : List Int) {P Q : PT}, rightT P = true → rightT Q = true → hasAll Q.1 ks = true → rightT (withT P Q ks) = true
  | [], _, _, hp, _, _ => hp
  | k :: r, P, Q, hp, hq, h => by
    unfold hasAll at h
    rw [List.all_cons, Bool.and_eq_true] at h
    exact right_with r (right_step hp hq h.1) hq h.2
theorem okM_z : okM zI = true := by decide
theorem okBox_z : okBox zI = true := by decide
theorem right_out {P : PT} {k : Int} (hp : rightT P = true) (hok : kOk k = true) : rightT (stepO P k) = true := by
  have hb := right_bound hp
  have hb2 := subK_bound (k := k) hb
  have f0 := sub_has hb hok (j := 0) (by omega)
  have f1 := sub_has hb hok (j := 1) (by omega)
  have f2 := sub_has hb hok (j := 2) (by omega)
  have f3 := sub_has hb hok (j := 3) (by omega)
  have f4 := sub_has hb hok (j := 4) (by omega)
  obtain ⟨h, M, m, B, p, a, c, l⟩ := P
  unfold rightT rightP kindsB kindB restB at hp
  simp only [Bool.and_eq_true] at hp
  obtain ⟨⟨_, ⟨⟨⟨k0, k1⟩, k2⟩, k3⟩, k4⟩, ⟨⟨⟨⟨r0, r1⟩, r2⟩, r3⟩, r4⟩, r5⟩ := hp
  have z12 := eq12_self zI
  have z6 := eq6_self zI
  have zM := okM_z
  have zB := okBox_z
  have hd := layT_has k (subK h k, M, m, B, p, a, c, l) zT
  unfold rightT rightP kindsB kindB restB stepO
  rw [hd]
  simp only [Bool.and_eq_true, decide_eq_true hb2.1, decide_eq_true hb2.2]
  clear hb2 hb hd
  rcases kOk_cases hok with rfl | rfl | rfl | rfl | rfl
  · exact ⟨⟨⟨trivial, trivial⟩, ⟨⟨⟨by simp [layT, zT, zkB, z12], by rw [f1]; simpa [layT, zkB] using k1⟩, by rw [f2]; simpa [layT, zkB] using k2⟩, by rw [f3]; simpa [layT, zkB] using k3⟩, by simp [zkB]⟩, ⟨⟨⟨⟨zM, r1⟩, r2⟩, r3⟩, r4⟩, r5⟩
  · exact ⟨⟨⟨trivial, trivial⟩, ⟨⟨⟨by rw [f0]; simpa [layT, zkB] using k0, by simp [layT, zT, zkB, z6]⟩, by rw [f2]; simpa [layT, zkB] using k2⟩, by rw [f3]; simpa [layT, zkB] using k3⟩, by simp [zkB]⟩, ⟨⟨⟨⟨r0, rfl⟩, zB⟩, r3⟩, r4⟩, r5⟩
  · exact ⟨⟨⟨trivial, trivial⟩, ⟨⟨⟨by rw [f0]; simpa [layT, zkB] using k0, by rw [f1]; simpa [layT, zkB] using k1⟩, by simp [layT, zT, zkB]⟩, by rw [f3]; simpa [layT, zkB] using k3⟩, by simp [zkB]⟩, ⟨⟨⟨⟨r0, r1⟩, r2⟩, rfl⟩, rfl⟩, r5⟩
  · exact ⟨⟨⟨trivial, trivial⟩, ⟨⟨⟨by rw [f0]; simpa [layT, zkB] using k0, by rw [f1]; simpa [layT, zkB] using k1⟩, by rw [f2]; simpa [layT, zkB] using k2⟩, by simp [layT, zT, zkB]⟩, by simp [zkB]⟩, ⟨⟨⟨⟨r0, r1⟩, r2⟩, r3⟩, r4⟩, rfl⟩
  · exact ⟨⟨⟨trivial, trivial⟩, ⟨⟨⟨by rw [f0]; simpa [layT, zkB] using k0, by rw [f1]; simpa [layT, zkB] using k1⟩, by rw [f2]; simpa [layT, zkB] using k2⟩, by rw [f3]; simpa [layT, zkB] using k3⟩, by simp [zkB]⟩, ⟨⟨⟨⟨r0, r1⟩, r2⟩, r3⟩, r4⟩, r5⟩
theorem right_wout : ∀ (ks : List Int) {P : PT}, rightT P = true → ksOk ks = true → rightT (woutT P ks) = true
  | [], _, hp, _ => hp
  | k :: r, P, hp, h => by
    unfold ksOk at h
    rw [List.all_cons, Bool.and_eq_true] at h
    exact right_wout r (right_out hp h.1) h.2

/-! there and back -/
theorem with_has : ∀ (ks : List Int) (P Q : PT), (withT P Q ks).1 = ks.foldl addK P.1
  | [], _, _ => rfl
  | _ :: r, _, _ => with_has r _ _
theorem with_all {P Q : PT} {ks : List Int} (hb : 0 ≤ P.1 ∧ P.1 ≤ 31) (h : ksOk ks = true) : hasAll (withT P Q ks).1 ks = true := by
  rw [with_has]
  unfold hasAll
  refine List.all_eq_true.2 (fun k hk => ?_)
  obtain ⟨j, rfl, hj⟩ := kind_of (List.all_eq_true.1 h k hk)
  rw [has_yes (by omega), fold_add ks P.1 hb h hj, show (ks.any (· == (j : Int))) = true from List.any_eq_true.2 ⟨_, hk, by simp⟩, Bool.or_true]
theorem ksOk_rev (ks : List Int) : ksOk ks.reverse = ksOk ks := by unfold ksOk; rw [List.all_reverse]
theorem ksV_rev (ks : List Int) : ksV ks.reverse = ksV ks := by
  unfold ksV
  rw [ksOk_rev]
  by_cases c : ksOk ks = true
  · rw [if_pos c, if_pos c]
    have c' : ksOk ks.reverse = true := by rw [ksOk_rev]; exact c
    exact set_ext (ksS_bound c') (ksS_bound c) (fun j hj => by rw [ksS_has c' hj, ksS_has c hj, List.any_reverse])
  · rw [if_neg c, if_neg c]
theorem ksE_rev (ks : List Int) : ksE ks.reverse = ksE ks := by unfold ksE; rw [ksOk_rev]
/-- has parts none of these kinds -/
def noneB (s : Int) (ks : List Int) : Bool := ks.all fun k => !hasB s k
theorem pick_with1 {s k : Int} (P Q : PT) (hk : kOk k = true) (hn : hasB s k = false) : pickT s (stepW Q P k) = pickT s P := by
  obtain ⟨j, rfl, hj⟩ := kind_of hk
  rw [has_yes (by omega)] at hn
  obtain ⟨h, M, m, B, p, a, c, l⟩ := P
  obtain ⟨h2, N, n, C, q, b, d, k2⟩ := Q
  unfold pickT stepW
  obtain rfl | rfl | rfl | rfl | rfl : j = 0 ∨ j = 1 ∨ j = 2 ∨ j = 3 ∨ j = 4 := by omega
  · rw [hn]; rfl
  · rw [hn]; rfl
  · rw [hn]; rfl
  · rw [hn]; rfl
  · rfl
theorem pick_with : ∀ (ks : List Int) (s : Int) (P Q : PT), ksOk ks = true → noneB s ks = true → pickT s (withT P Q ks) = pickT s P
  | [], _, _, _, _, _ => rfl
  | k :: r, s, P, Q, h, hn => by
    unfold ksOk at h
    unfold noneB at hn
    rw [List.all_cons, Bool.and_eq_true] at h hn
    have : withT P Q (k :: r) = withT (stepW Q P k) Q r := rfl
    rw [this, pick_with r s _ Q h.2 hn.2, pick_with1 P Q h.1 (by simpa using hn.1)]
theorem back_same {P Q : PT} {ks : List Int} (hok : withOk P Q ks = true) (hn : noneB P.1 ks = true) : pl (woutT (withT P Q ks) ks.reverse) = pl P := by
  unfold withOk at hok
  rw [Bool.and_eq_true, Bool.and_eq_true] at hok
  have hp := hok.1.1
  have hb := right_bound hp
  have h := hasAll_ok hok.2
  have h' : ksOk ks.reverse = true := by rw [ksOk_rev]; exact h
  have hx := right_with ks hp hok.1.2 hok.2
  rw [wout_pick hx h', with_has]
  have e : ks.reverse.foldl subK (ks.foldl addK P.1) = P.1 := by
    refine set_ext (sub_bound _ _ (ks_bound ks P.1 hb h)) hb (fun j hj => ?_)
    rw [fold_sub _ _ (ks_bound ks P.1 hb h) h' hj, fold_add ks P.1 hb h hj, List.any_reverse]
    cases c : ks.any (· == (j : Int)) with
    | false => simp
    | true =>
      obtain ⟨k, hk, e⟩ := List.any_eq_true.1 c
      have e : k = (j : Int) := by simpa using e
      subst e
      have := List.all_eq_true.1 hn _ hk
      rw [has_yes (by omega)] at this
      have : hasN P.1 j = false := by simpa using this
      rw [this]
      rfl
  rw [e, pick_with ks P.1 P Q h hn, right_bare hp]

end Go.Proofs.Ytpobnmcjmclgbaa
