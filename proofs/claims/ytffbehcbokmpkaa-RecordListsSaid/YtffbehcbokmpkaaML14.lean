/-
  3 texts in one file, each with its own heading.
-/
import Derived.Test.YtffbehcbokmpkaaML13
/-
  The library's rotation of two ranges, walked; what a merge of two sorted ranges asks of its two cuts.
-/
namespace Go.Proofs.Ytffbehcbokmpkaa
open Go.RowKit

theorem take_drop_len {α : Type} {A : List α} {i j : Nat} (h : A.length = i) (hj : j ≤ i) : (A.take j).length = j ∧ (A.drop j).length = i - j := by
  rw [List.length_take, List.length_drop]; omega
structure RotAt (T : List Rc) (m i j : Nat) (P A B Q : List Rc) : Prop where
  t : P ++ (B ++ A) ++ Q = T
  lp : P.length + i = m
  la : A.length = i
  lb : B.length = j
  i0 : 0 < i
  j0 : 0 < j
theorem RotAt.left {T : List Rc} {m i j : Nat} {P A B Q : List Rc} (h : RotAt T m i j P A B Q) (hij : j < i) : RotAt T m (i - j) j (P ++ B) (A.drop j) (A.take j) Q := by
  obtain ⟨l1, l2⟩ := take_drop_len h.la (Nat.le_of_lt hij)
  have := h.lp
  have := h.j0
  refine ⟨?_, by rw [List.length_append, h.lb]; omega, l2, l1, by omega, h.j0⟩
  rw [List.take_append_drop, ← h.t]
  simp only [List.append_assoc]
theorem RotAt.right {T : List Rc} {m i j : Nat} {P A B Q : List Rc} (h : RotAt T m i j P A B Q) (hij : i < j) : RotAt T m i (j - i) P (B.drop (j - i)) (B.take (j - i)) (A ++ Q) := by
  obtain ⟨l1, l2⟩ := take_drop_len h.lb (show j - i ≤ j by omega)
  refine ⟨?_, h.lp, by rw [l2]; omega, l1, h.i0, by omega⟩
  rw [List.take_append_drop, ← h.t]
  simp only [List.append_assoc]
set_option maxHeartbeats 8000000 in
set_option maxRecDepth 100000 in
theorem rot_any (g n cap a m b : Nat) (cv : Value) (P U V Q : List Rc) (w : World) (hX : MR 12 cRc 36 w g (P ++ U ++ V ++ Q)) (hn : (P ++ U ++ V ++ Q).length = n) (hbig : n ≤ 1000000000)
    (ha : P.length = a) (hm : a + U.length = m) (hb : m + V.length = b) (hU : 0 < U.length) (hV : 0 < V.length) :
    Calls Try.prog 82 #[.slice (some ⟨g, 0, none⟩) n cap, .int .i64 a, .int .i64 m, .int .i64 b, cv] w fun e w' => e = .returned (.tuple #[]) ∧ DR w 36 g w' (P ++ V ++ U ++ Q) := by
  obtain ⟨T, hT⟩ : ∃ T, T = P ++ V ++ U ++ Q := ⟨_, rfl⟩
  rw [← hT]
  have H0 : Hid (DR w 36 g w (P ++ U ++ V ++ Q) ∧ RotAt T m (m - a) (b - m) P U V Q) := Lib.hid ⟨DR.start hX, by rw [hT]; simp only [List.append_assoc], by omega, by omega, by omega, by omega, by omega⟩
  have hn0 : m + V.length + Q.length = n := by rw [← hn, ← hm, ← ha]; simp only [List.length_append]
  have hbn : b ≤ n := by omega
  have hTl : Hid (T.length = n) := Lib.hid (by rw [hT, ← hn]; simp only [List.length_append]; omega)
  have ham : a ≤ m := by omega
  have hmb : m ≤ b := by omega
  have HR : Hid (∀ (wr : World) (a' b' k : Int) (pa pb pk : Nat) (P' A M B Q' : List Rc), DR w 36 g wr (P' ++ A ++ M ++ B ++ Q') → (P' ++ A ++ M ++ B ++ Q').length = n → a' = (pa : Int) → b' = (pb : Int) → k = (pk : Int) → P'.length = pa → A.length = pk → B.length = pk → pb = pa + pk + M.length →
      Calls Try.prog 84 #[.slice (some ⟨g, 0, none⟩) n cap, .int .i64 a', .int .i64 b', .int .i64 k, cv] wr fun e w' => e = .returned (.tuple #[]) ∧ DR w 36 g w' (P' ++ B ++ M ++ A ++ Q')) := Lib.hid (fun wr a' b' k pa pb pk P' A M B Q' hd hl e1 e2 e3 h1 h2 h3 h4 => by
    subst e1 e2 e3
    exact (rng_any g n cap pa pb pk cv P' A M B Q' wr hd.1 hl hbig h1 h2 h3 h4).mono (fun e w' h => ⟨h.1, hd.next h.2⟩))
  clear hX hn ha hm hb hT hn0 hU hV
  go_enter Try.func82, Try.ntmps82
  go_wp2
  go_loopw [10, 11] (fun v10 v11 wr => ∃ (i j : Nat) (P' A B Q' : List Rc), v10 = .int .i64 i ∧ v11 = .int .i64 j ∧ DR w 36 g wr (P' ++ A ++ B ++ Q') ∧ RotAt T m i j P' A B Q') (fun v10 v11 _ => (ivl v10).toNat + (ivl v11).toNat)
  case atStart => exact ⟨m - a, b - m, P, U, V, Q, by go_num, by go_num, H0.out.1, H0.out.2⟩
  case round =>
    clear H0
    obtain ⟨i, j, P', A, B, Q', rfl, rfl, hd, hr⟩ := hrel
    have HD := Lib.hid hd
    have HRt := Lib.hid hr
    have hlt : P'.length + j + i + Q'.length = n := by rw [← hTl.out, ← hr.t]; simp only [List.length_append, hr.la, hr.lb]; omega
    have hi0 := hr.i0
    have hj0 := hr.j0
    have hpm := hr.lp
    clear hd hr
    by_cases hij : i = j
    · subst hij
      have HC := Lib.hid (HR.out wr ((m : Int) - (i : Int)) m i P'.length m i P' A [] B Q' (by simpa using HD.out) (by have h1 := HRt.out.la; have h2 := HRt.out.lb; simp only [List.length_append, List.length_nil]; omega) (by omega) rfl rfl rfl HRt.out.la HRt.out.lb (by simp; omega))
      have HE : Hid (P' ++ B ++ [] ++ A ++ Q' = T) := Lib.hid (by rw [← HRt.out.t]; simp)
      have e1 : ((i : Int) != (i : Int)) = false := by simp
      clear HD HRt
      go_wp2_with fail
      refine HC.out.mono ?_
      rintro e w1 ⟨rfl, hd⟩
      have HD := Lib.hid (HE.out ▸ hd)
      clear hd HC HE
      go_wp2
      go_end0
      exact ⟨rfl, HD.out⟩
    · have e1 : ((i : Int) != (j : Int)) = true := by simp; omega
      by_cases hlt2 : j < i
      · have e2 : (j : Int) < (i : Int) := by omega
        obtain ⟨l1, l2⟩ := take_drop_len HRt.out.la (Nat.le_of_lt hlt2)
        have HC := Lib.hid (HR.out wr ((m : Int) - (i : Int)) m j P'.length m j P' (A.take j) (A.drop j) B Q' (by rw [List.append_assoc P', List.take_append_drop]; exact HD.out) (by have h2 := HRt.out.lb; simp only [List.length_append, l1, l2]; omega) (by omega) rfl rfl rfl l1 HRt.out.lb (by rw [l2]; omega))
        have HRt2 := Lib.hid (HRt.out.left hlt2)
        clear HD HRt l1 l2
        go_wp2_with fail
        refine HC.out.mono ?_
        rintro e w1 ⟨rfl, hd⟩
        have HD := Lib.hid hd
        clear hd HC
        go_wp2
        go_roundw
        case rel => exact ⟨i - j, j, _, _, _, _, by go_num, rfl, HD.out, HRt2.out⟩
        case measure => simp [ivl] <;> omega
      · have e2 : ¬ (j : Int) < (i : Int) := by omega
        have hlt3 : i < j := by omega
        obtain ⟨l1, l2⟩ := take_drop_len HRt.out.lb (show j - i ≤ j by omega)
        have HC := Lib.hid (HR.out wr ((m : Int) - (i : Int)) ((m : Int) + (j : Int) - (i : Int)) i P'.length (m + j - i) i P' A (B.take (j - i)) (B.drop (j - i)) Q' (by rw [List.append_assoc (P' ++ A), List.take_append_drop]; exact HD.out) (by have h2 := HRt.out.la; simp only [List.length_append, l1, l2]; omega) (by omega) (by omega) rfl rfl HRt.out.la (by rw [l2]; omega) (by rw [l1]; omega))
        have HRt2 := Lib.hid (HRt.out.right hlt3)
        have HAs : Hid (P' ++ B.drop (j - i) ++ B.take (j - i) ++ (A ++ Q') = P' ++ B.drop (j - i) ++ B.take (j - i) ++ A ++ Q') := Lib.hid (by simp only [List.append_assoc])
        clear HD HRt l1 l2
        go_wp2_with fail
        refine HC.out.mono ?_
        rintro e w1 ⟨rfl, hd⟩
        have HD := Lib.hid (HAs.out ▸ hd)
        clear hd HC HAs
        go_wp2
        go_roundw
        case rel => exact ⟨i, j - i, _, _, _, _, rfl, by go_num, HD.out, HRt2.out⟩
        case measure => simp [ivl] <;> omega
theorem sym_fin {U V : List Rc} {s t : Nat} (hU : Asc Rc.id U) (hV : Asc Rc.id V) (hs : s ≤ U.length) (ht : t ≤ V.length)
    (h1 : s = 0 ∨ t = V.length ∨ ∃ x y, U[s - 1]? = some x ∧ V[t]? = some y ∧ x.id ≤ y.id) (h2 : s = U.length ∨ t = 0 ∨ ∃ x y, V[t - 1]? = some y ∧ U[s]? = some x ∧ y.id < x.id) :
    (∀ p ∈ U.take s ++ V.take t, ∀ q ∈ U.drop s ++ V.drop t, p.id ≤ q.id) ∧ Fil Rc.id (U ++ V) ((U.take s ++ V.take t) ++ (U.drop s ++ V.drop t)) := by
  have hU' : Asc Rc.id (U.take s ++ U.drop s) := by rw [List.take_append_drop]; exact hU
  have hV' : Asc Rc.id (V.take t ++ V.drop t) := by rw [List.take_append_drop]; exact hV
  have uu := (List.pairwise_append.1 hU').2.2
  have vv := (List.pairwise_append.1 hV').2.2
  have uv : ∀ p ∈ U.take s, ∀ q ∈ V.drop t, p.id ≤ q.id := fun p hp q hq => by
    rcases h1 with rfl | rfl | ⟨x, y, hx, hy, hxy⟩
    · simp at hp
    · rw [List.drop_length] at hq; cases hq
    · rcases Nat.eq_zero_or_pos s with rfl | h0
      · simp at hp
      · have e1 := asc_take_le hU hx p (by rw [show s - 1 + 1 = s by omega]; exact hp)
        have e2 := asc_drop_le hV hy q hq
        omega
  have vu : ∀ p ∈ V.take t, ∀ q ∈ U.drop s, p.id < q.id := fun p hp q hq => by
    rcases h2 with rfl | rfl | ⟨x, y, hy, hx, hxy⟩
    · rw [List.drop_length] at hq; cases hq
    · simp at hp
    · rcases Nat.eq_zero_or_pos t with rfl | h0
      · simp at hp
      · have e1 := asc_take_le hV hy p (by rw [show t - 1 + 1 = t by omega]; exact hp)
        have e2 := asc_drop_le hU hx q hq
        omega
  refine ⟨fun p hp q hq => ?_, ?_⟩
  · rcases List.mem_append.1 hp with hp | hp <;> rcases List.mem_append.1 hq with hq | hq
    · exact uu p hp q hq
    · exact uv p hp q hq
    · exact Int.le_of_lt (vu p hp q hq)
    · exact vv p hp q hq
  · have e1 : U ++ V = U.take s ++ (U.drop s ++ V.take t) ++ V.drop t := by
      rw [List.append_assoc, List.append_assoc, List.take_append_drop, ← List.append_assoc, List.take_append_drop]
    have e2 : (U.take s ++ V.take t) ++ (U.drop s ++ V.drop t) = U.take s ++ (V.take t ++ U.drop s) ++ V.drop t := by simp only [List.append_assoc]
    rw [e1, e2]
    refine Fil.mid (fil_cross fun a ha b hb => ?_)
    have := vu b hb a ha
    omega
theorem one_of {S : List Rc} {v : Rc} (hS : Asc Rc.id S) {t : Nat} (ht : t ≤ S.length) (h1 : t = 0 ∨ ∃ y, S[t - 1]? = some y ∧ y.id < v.id) (h2 : t = S.length ∨ ∃ y, S[t]? = some y ∧ v.id ≤ y.id) :
    Asc Rc.id (S.take t ++ v :: S.drop t) ∧ Fil Rc.id ([v] ++ S) (S.take t ++ v :: S.drop t) := by
  have a1 : ∀ r ∈ S.take t, r.id < v.id := fun r hr => by
    rcases h1 with rfl | ⟨y, hy, hl⟩
    · simp at hr
    · rcases Nat.eq_zero_or_pos t with rfl | h0
      · simp at hr
      · have := asc_take_le hS hy r (by rw [show t - 1 + 1 = t by omega]; exact hr)
        omega
  have a2 : ∀ r ∈ S.drop t, v.id ≤ r.id := fun r hr => by
    rcases h2 with rfl | ⟨y, hy, hl⟩
    · rw [List.drop_length] at hr; cases hr
    · have := asc_drop_le hS hy r hr
      omega
  exact ⟨ins_asc hS (fun r hr => Int.le_of_lt (a1 r hr)) a2, ins_fil_front a1⟩
theorem last_of {S : List Rc} {v : Rc} (hS : Asc Rc.id S) {t : Nat} (ht : t ≤ S.length) (h1 : t = 0 ∨ ∃ y, S[t - 1]? = some y ∧ y.id ≤ v.id) (h2 : t = S.length ∨ ∃ y, S[t]? = some y ∧ v.id < y.id) :
    Asc Rc.id (S.take t ++ v :: S.drop t) ∧ Fil Rc.id (S ++ [v]) (S.take t ++ v :: S.drop t) := by
  have a1 : ∀ r ∈ S.take t, r.id ≤ v.id := fun r hr => by
    rcases h1 with rfl | ⟨y, hy, hl⟩
    · simp at hr
    · rcases Nat.eq_zero_or_pos t with rfl | h0
      · simp at hr
      · have := asc_take_le hS hy r (by rw [show t - 1 + 1 = t by omega]; exact hr)
        omega
  have a2 : ∀ r ∈ S.drop t, v.id < r.id := fun r hr => by
    rcases h2 with rfl | ⟨y, hy, hl⟩
    · rw [List.drop_length] at hr; cases hr
    · have := asc_drop_le hS hy r hr
      omega
  exact ⟨ins_asc hS a1 (fun r hr => Int.le_of_lt (a2 r hr)), ins_fil_back a2⟩
set_option maxHeartbeats 16000000 in
set_option maxRecDepth 100000 in
theorem sym_one (g n cap a m b : Nat) (P : List Rc) (u : Rc) (V Q : List Rc) (w : World) (hX : MR 12 cRc 36 w g (P ++ [u] ++ V ++ Q)) (hn : (P ++ [u] ++ V ++ Q).length = n) (hbig : n ≤ 1000000000)
    (ha : P.length = a) (hm : a + 1 = m) (hb : m + V.length = b) (hV : Asc Rc.id V) :
    Calls Try.prog 78 #[.slice (some ⟨g, 0, none⟩) n cap, .int .i64 a, .int .i64 m, .int .i64 b, .func (.func 26) #[] #[]] w fun e w' => e = .returned (.tuple #[]) ∧ ∃ Z, Z.length = 1 + V.length ∧ Fil Rc.id ([u] ++ V) Z ∧ Asc Rc.id Z ∧ DR w 36 g w' (P ++ Z ++ Q) := by
  have e0 : P ++ [u] ++ V ++ Q = insZ P V u Q 0 := by unfold insZ; simp
  have H0 : Hid (DR w 36 g w (insZ P V u Q 0)) := Lib.hid (by rw [← e0]; exact DR.start hX)
  have HAt : Hid (∀ j y, V[j]? = some y → (insZ P V u Q 0)[m + j]? = some y) := Lib.hid (fun j y hy => by
    rw [← e0, ← hm, ← ha, List.append_assoc, List.getElem?_append_right (by simp), List.getElem?_append_left]
    · simpa using hy
    · have := (List.getElem?_eq_some_iff.1 hy).1
      simp; omega)
  have HAu : Hid (∀ j, j ≤ V.length → (insZ P V u Q j)[a + j]? = some u) := Lib.hid (fun j hj => by rw [← ha]; exact insz_at hj)
  have HAn : Hid (∀ j y, V[j]? = some y → (insZ P V u Q j)[a + j + 1]? = some y ∧ ((insZ P V u Q j).set (a + j) y).set (a + j + 1) u = insZ P V u Q (j + 1)) := Lib.hid (fun j y hy => by rw [← ha, Nat.add_assoc]; exact ⟨insz_next hy, insz_up hy⟩)
  have HLn : Hid (∀ j, j ≤ V.length → (insZ P V u Q j).length = n) := Lib.hid (fun j hj => by rw [insz_len hj, ← hn]; simp; omega)
  have hbn : b ≤ n := by rw [← hn, ← hb, ← hm, ← ha]; simp; omega
  have hm1 : a + 1 ≤ m := by omega
  have hm2 : m ≤ a + 1 := by omega
  have hb1 : m + V.length ≤ b := by omega
  have hb2 : b ≤ m + V.length := by omega
  have g1 : ((m : Int) - (a : Int) == 1) = true := by simp; omega
  have HV := Lib.hid hV
  have hE := enters_by
  unfold Enters at hE
  clear hX hn ha hm hb hV e0
  go_enter Try.func78, Try.ntmps78
  go_wp2
  go_loopw [10, 11, 12] (fun v10 v11 _ wr => ∃ lo hi : Nat, v10 = .int .i64 lo ∧ v11 = .int .i64 hi ∧ m ≤ lo ∧ lo ≤ hi ∧ hi ≤ b ∧ DR w 36 g wr (insZ P V u Q 0) ∧ (lo - m = 0 ∨ ∃ y, V[lo - m - 1]? = some y ∧ y.id < u.id) ∧ (hi - m = V.length ∨ ∃ y, V[hi - m]? = some y ∧ u.id ≤ y.id)) (fun v10 v11 _ _ => (ivl v11).toNat - (ivl v10).toNat)
  case atStart => exact ⟨m, b, rfl, rfl, Nat.le_refl _, by omega, Nat.le_refl _, H0.out, Or.inl (by omega), Or.inl (by omega)⟩
  case round =>
    clear H0
    obtain ⟨lo, hi, rfl, rfl, hlo, hlh, hhi, hd, hc1, hc2⟩ := hrel
    have HD := Lib.hid hd
    have HC1 := Lib.hid hc1
    have HC2 := Lib.hid hc2
    clear hd hc1 hc2
    by_cases hlt : lo < hi
    · obtain ⟨h, hh⟩ : ∃ h : Nat, h = (lo + hi) / 2 := ⟨_, rfl⟩
      have hh2 : ((lo : Int) + (hi : Int)) / 2 = (h : Int) := by omega
      have hl1 : lo ≤ h := by omega
      have hl2 : h < hi := by omega
      clear hh
      obtain ⟨y, hy⟩ : ∃ y, V[h - m]? = some y := ⟨_, List.getElem?_eq_getElem (by omega)⟩
      have hp := HAt.out _ _ hy
      rw [show m + (h - m) = h by omega] at hp
      have hq := HAu.out 0 (by omega)
      rw [Nat.add_zero] at hq
      have HY := Lib.hid hy
      have HS : Hid (∀ W, Below wr.heap.size wr W → W.rangeAt g (h * 12) (cRc y) ∧ W.rangeAt g (a * 12) (cRc u)) := Lib.hid (fun W hb => ⟨(HD.out.below hb).1.range cRc_len hp, (HD.out.below hb).1.range cRc_len hq⟩)
      have HCm : Hid (∀ W, Calls Try.prog 26 #[.agg (cRc y).toArray, .agg (cRc u).toArray] W fun e w' => e = .returned (.int .i64 (cmpI (y).id (u).id)) ∧ Below W.heap.size W w') := Lib.hid (fun W => by_any y u W)
      have HSz : Hid (((Try.prog.info? 36).map (·.size) = some (cRc y).length) ∧ ((Try.prog.info? 36).map (·.size) = some (cRc u).length)) := Lib.hid ⟨rc_size y, rc_size u⟩
      have HCn : Hid (cmpI (y).id (u).id < 0 ↔ (y).id < (u).id) := Lib.hid cmp_neg
      obtain ⟨XP, hXP⟩ : ∃ XP, XP = cRc y := ⟨_, rfl⟩
      obtain ⟨XQ, hXQ⟩ : ∃ XQ, XQ = cRc u := ⟨_, rfl⟩
      rw [← hXP, ← hXQ] at HCm HSz HS
      obtain ⟨cc, hcc⟩ : ∃ cc, cc = cmpI (y).id (u).id := ⟨_, rfl⟩
      rw [← hcc] at HCm HCn
      clear hXP hXQ hcc
      have p0 : (0 : Int) ≤ (h : Int) := by omega
      have p1 : (h : Int) < (n : Int) := by omega
      have q0 : (0 : Int) ≤ (a : Int) := by omega
      have q1 : (a : Int) < (n : Int) := by omega
      have hli : (lo : Int) < (hi : Int) := by omega
      clear hp hq hy
      go_wp2_with fail
      refine wp_region_held_drew (S := fun w' => w'.rangeAt g (h * 12) XP ∧ w'.rangeAt g (a * 12) XQ) (by kernel_rfl) (HS.out _ (bdrew (Below.refl _ _))) (fun hHeld => ?_)
      refine tk 0 hHeld ?_
      refine tk 1 hHeld ?_
      refine tk 2 hHeld ?_
      refine tk 3 hHeld ?_
      refine tkl 4 rfl (yieldsIf_load_mid (by rfl) _ _ rfl _ _ rfl _ _ (fun _ h => h.1) Try.underlying36 rfl HSz.out.1) hHeld ?_
      refine tk 5 hHeld ?_
      refine tk 6 hHeld ?_
      refine tk 7 hHeld ?_
      refine tkl 8 rfl (yieldsIf_load_mid (by rfl) _ _ rfl _ _ rfl _ _ (fun _ h => h.2) Try.underlying36 rfl HSz.out.2) hHeld ?_
      refine rd 9 (fun K hK => ?_)
      go_simp
      refine (HCm.out _).mono ?_
      rintro e w1 ⟨rfl, b1⟩
      go_wp2_with fail
      refine hK.out _ _ (HS.out _ (bthen (bdrew (Below.refl _ _)) b1)) (fun hHeld => ?_)
      clear hK K
      refine tk 10 hHeld ?_
      refine wpAnyH_done (by kernel_rfl) ?_ _
      clear hHeld
      refine fin (fun W => Below wr.heap.size wr W) (bthen (bdrew (Below.refl _ _)) b1) ?_
      clear b1 HS HCm
      rintro W hbW
      have HBW := Lib.hid hbW
      clear hbW
      have HD2 := Lib.hid (HD.out.below HBW.out)
      by_cases hc : cc < 0
      · have hlt2 := Lib.hid (HCn.out.1 hc)
        clear HCn HD HBW
        go_wp2
        go_roundw
        case rel => exact ⟨h + 1, hi, by go_num, rfl, by omega, by omega, hhi, HD2.out, Or.inr ⟨y, by rw [show h + 1 - m - 1 = h - m by omega]; exact HY.out, hlt2.out⟩, HC2.out⟩
        case measure => simp [ivl] <;> omega
      · have hlt2 : Hid (u.id ≤ y.id) := Lib.hid (by have := HCn.out; omega)
        clear HCn HD HBW
        go_wp2
        go_roundw
        case rel => exact ⟨lo, h, rfl, rfl, hlo, hl1, by omega, HD2.out, HC1.out, Or.inr ⟨y, HY.out, hlt2.out⟩⟩
        case measure => simp [ivl] <;> omega
    · obtain rfl : hi = lo := by omega
      have hli : ¬ (hi : Int) < (hi : Int) := by omega
      obtain ⟨t, ht⟩ : ∃ t, t = hi - m := ⟨_, rfl⟩
      rw [← ht] at HC1 HC2
      have HF := Lib.hid (one_of HV.out (by omega) HC1.out HC2.out)
      have HT := Lib.hid ht
      have ht1 : m + t ≤ hi := by omega
      have ht2 : hi ≤ m + t := by omega
      clear ht HC1 HC2 HV
      go_wp2
      go_loopw [13] (fun v13 wr => ∃ j : Nat, v13 = .int .i64 ((a + j : Nat) : Int) ∧ j ≤ t ∧ DR w 36 g wr (insZ P V u Q j)) (fun v13 _ => n - (ivl v13).toNat)
      case atStart => exact ⟨0, by simp, by omega, HD.out⟩
      case round =>
        clear HD
        obtain ⟨j, rfl, hj, hd⟩ := hrel
        have HD := Lib.hid hd
        clear hd
        obtain ⟨k, hk⟩ : ∃ k, k = a + j := ⟨_, rfl⟩
        rw [← hk]
        by_cases hlt : j < t
        · obtain ⟨y, hy⟩ : ∃ y, V[j]? = some y := ⟨_, List.getElem?_eq_getElem (by omega)⟩
          obtain ⟨hq, hs⟩ := HAn.out _ _ hy
          have hp := HAu.out j (by omega)
          obtain ⟨Z, hZ⟩ : ∃ Z, Z = insZ P V u Q j := ⟨_, rfl⟩
          have hZl : Z.length = n := by rw [hZ]; exact HLn.out j (by omega)
          rw [← hZ] at hs hp hq HD
          rw [← hk] at hs hp hq
          obtain ⟨q, hqk⟩ : ∃ q, q = k + 1 := ⟨_, rfl⟩
          rw [← hqk] at hq hs
          have HRp := Lib.hid (HD.out.1.len_big hp)
          have HRq := Lib.hid (HD.out.1.len_big hq)
          have HN : Hid (∀ W', W' = ((wr.drew.setCells g (k * 12) (cRc y)).setCells g (q * 12) (cRc u)) → DR w 36 g W' ((Z.set k y).set q u)) := Lib.hid (fun W' e => by
            rw [e]
            exact HD.out.swap (by rw [hZl]; omega) (by rw [hZl]; omega) u y)
          rw [hs] at HN
          have hw1 : IntKind.i64.wrap ((k : Int) + 1) = (q : Int) := by rw [show (k : Int) + 1 = (q : Int) by omega]; exact IntWalk.i64_in _ (by omega)
          have p0 : (0 : Int) ≤ (k : Int) := by omega
          have p1 : (k : Int) < (n : Int) := by omega
          have q0 : (0 : Int) ≤ (q : Int) := by omega
          have q1 : (q : Int) < (n : Int) := by omega
          have hli2 : (k : Int) < (hi : Int) - 1 := by omega
          have HK := Lib.hid hk
          have HQ := Lib.hid hqk
          clear hk hs hp hq hy hZ hZl hqk HD
          go_upto_region 11 with fail
          refine swap_syA (p := k) (q := q) (Xp := cRc u) (Xq := cRc y) (fun _ _ d _ _ h => by cases d <;> exact h) hw1 p0 p1 q0 q1 rfl rfl (rc_all _) (rc_all _) HRp.out.1 HRq.out.1 HRp.out.2 HRq.out.2 ?_
          intro W hW
          have HD2 := Lib.hid (HN.out W hW)
          clear hW HN HRp HRq
          go_wp2
          go_roundw
          case rel => exact ⟨j + 1, by have := HK.out; have := HQ.out; go_num, by omega, HD2.out⟩
          case measure => have := HK.out; have := HQ.out; simp [ivl] <;> omega
        · obtain rfl : j = t := by omega
          have hli2 : ¬ (k : Int) < (hi : Int) - 1 := by omega
          clear hk
          go_wp2
          (try simp only [Exit.inBlock, Exit.then])
          refine bodyPost_ret (results_none rfl _ _ _) rfl ?_
          exact ⟨rfl, V.take j ++ u :: V.drop j, by simp only [List.length_append, List.length_take, List.length_cons, List.length_drop]; omega, HF.out.2, HF.out.1, by have q := HD.out; unfold insZ at q; simpa only [List.append_assoc, List.cons_append] using q⟩
set_option maxHeartbeats 16000000 in
set_option maxRecDepth 100000 in
theorem sym_last (g n cap a m b : Nat) (P : List Rc) (v : Rc) (U Q : List Rc) (w : World) (hX : MR 12 cRc 36 w g (P ++ U ++ [v] ++ Q)) (hn : (P ++ U ++ [v] ++ Q).length = n) (hbig : n ≤ 1000000000)
    (ha : P.length = a) (hm : a + U.length = m) (hb : m + 1 = b) (hU2 : 2 ≤ U.length) (hU : Asc Rc.id U) :
    Calls Try.prog 78 #[.slice (some ⟨g, 0, none⟩) n cap, .int .i64 a, .int .i64 m, .int .i64 b, .func (.func 26) #[] #[]] w fun e w' => e = .returned (.tuple #[]) ∧ ∃ Z, Z.length = U.length + 1 ∧ Fil Rc.id (U ++ [v]) Z ∧ Asc Rc.id Z ∧ DR w 36 g w' (P ++ Z ++ Q) := by
  have e0 : P ++ U ++ [v] ++ Q = insZ P U v Q U.length := by unfold insZ; rw [List.take_length, List.drop_length]; simp
  have H0 : Hid (DR w 36 g w (insZ P U v Q U.length)) := Lib.hid (by rw [← e0]; exact DR.start hX)
  have HAt : Hid (∀ j y, U[j]? = some y → (insZ P U v Q U.length)[a + j]? = some y) := Lib.hid (fun j y hy => by
    have hj := (List.getElem?_eq_some_iff.1 hy).1
    rw [← e0, ← ha, List.append_assoc, List.append_assoc, List.getElem?_append_right (by omega), List.getElem?_append_left (by omega)]
    simpa using hy)
  have HAu : Hid (∀ j, j ≤ U.length → (insZ P U v Q j)[a + j]? = some v) := Lib.hid (fun j hj => by rw [← ha]; exact insz_at hj)
  have HAn : Hid (∀ j y, U[j]? = some y → (insZ P U v Q (j + 1))[a + j]? = some y ∧ ((insZ P U v Q (j + 1)).set (a + j + 1) y).set (a + j) v = insZ P U v Q j) := Lib.hid (fun j y hy => by rw [← ha, Nat.add_assoc]; exact ⟨insz_prev hy, insz_down hy⟩)
  have HLn : Hid (∀ j, j ≤ U.length → (insZ P U v Q j).length = n) := Lib.hid (fun j hj => by rw [insz_len hj, ← hn]; simp; omega)
  have hbn : b ≤ n := by rw [← hn, ← hb, ← hm, ← ha]; simp; omega
  have hb1 : m + 1 ≤ b := by omega
  have hb2 : b ≤ m + 1 := by omega
  have hm1 : a + U.length ≤ m := by omega
  have hm2 : m ≤ a + U.length := by omega
  have g1 : ((m : Int) - (a : Int) == 1) = false := by simp; omega
  have g2 : ((b : Int) - (m : Int) == 1) = true := by simp; omega
  have HU := Lib.hid hU
  have hE := enters_by
  unfold Enters at hE
  clear hX hn ha hm hb hU e0
  go_enter Try.func78, Try.ntmps78
  go_wp2
  go_loopw [14, 15, 16] (fun v14 v15 _ wr => ∃ lo hi : Nat, v14 = .int .i64 lo ∧ v15 = .int .i64 hi ∧ a ≤ lo ∧ lo ≤ hi ∧ hi ≤ m ∧ DR w 36 g wr (insZ P U v Q U.length) ∧ (lo - a = 0 ∨ ∃ y, U[lo - a - 1]? = some y ∧ y.id ≤ v.id) ∧ (hi - a = U.length ∨ ∃ y, U[hi - a]? = some y ∧ v.id < y.id)) (fun v14 v15 _ _ => (ivl v15).toNat - (ivl v14).toNat)
  case atStart => exact ⟨a, m, rfl, rfl, Nat.le_refl _, by omega, Nat.le_refl _, H0.out, Or.inl (by omega), Or.inl (by omega)⟩
  case round =>
    clear H0
    obtain ⟨lo, hi, rfl, rfl, hlo, hlh, hhi, hd, hc1, hc2⟩ := hrel
    have HD := Lib.hid hd
    have HC1 := Lib.hid hc1
    have HC2 := Lib.hid hc2
    clear hd hc1 hc2
    by_cases hlt : lo < hi
    · obtain ⟨h, hh⟩ : ∃ h : Nat, h = (lo + hi) / 2 := ⟨_, rfl⟩
      have hh2 : ((lo : Int) + (hi : Int)) / 2 = (h : Int) := by omega
      have hl1 : lo ≤ h := by omega
      have hl2 : h < hi := by omega
      clear hh
      obtain ⟨y, hy⟩ : ∃ y, U[h - a]? = some y := ⟨_, List.getElem?_eq_getElem (by omega)⟩
      have hq := HAt.out _ _ hy
      rw [show a + (h - a) = h by omega] at hq
      have hp := HAu.out U.length (Nat.le_refl _)
      rw [show a + U.length = m by omega] at hp
      have HY := Lib.hid hy
      have HS : Hid (∀ W, Below wr.heap.size wr W → W.rangeAt g (m * 12) (cRc v) ∧ W.rangeAt g (h * 12) (cRc y)) := Lib.hid (fun W hb => ⟨(HD.out.below hb).1.range cRc_len hp, (HD.out.below hb).1.range cRc_len hq⟩)
      have HCm : Hid (∀ W, Calls Try.prog 26 #[.agg (cRc v).toArray, .agg (cRc y).toArray] W fun e w' => e = .returned (.int .i64 (cmpI (v).id (y).id)) ∧ Below W.heap.size W w') := Lib.hid (fun W => by_any v y W)
      have HSz : Hid (((Try.prog.info? 36).map (·.size) = some (cRc v).length) ∧ ((Try.prog.info? 36).map (·.size) = some (cRc y).length)) := Lib.hid ⟨rc_size v, rc_size y⟩
      have HCn : Hid (cmpI (v).id (y).id < 0 ↔ (v).id < (y).id) := Lib.hid cmp_neg
      obtain ⟨XP, hXP⟩ : ∃ XP, XP = cRc v := ⟨_, rfl⟩
      obtain ⟨XQ, hXQ⟩ : ∃ XQ, XQ = cRc y := ⟨_, rfl⟩
      rw [← hXP, ← hXQ] at HCm HSz HS
      obtain ⟨cc, hcc⟩ : ∃ cc, cc = cmpI (v).id (y).id := ⟨_, rfl⟩
      rw [← hcc] at HCm HCn
      clear hXP hXQ hcc
      have p0 : (0 : Int) ≤ (h : Int) := by omega
      have p1 : (h : Int) < (n : Int) := by omega
      have q0 : (0 : Int) ≤ (m : Int) := by omega
      have q1 : (m : Int) < (n : Int) := by omega
      have hli : (lo : Int) < (hi : Int) := by omega
      clear hp hq hy
      go_wp2_with fail
      refine wp_region_held_drew (S := fun w' => w'.rangeAt g (m * 12) XP ∧ w'.rangeAt g (h * 12) XQ) (by kernel_rfl) (HS.out _ (bdrew (Below.refl _ _))) (fun hHeld => ?_)
      refine tk 0 hHeld ?_
      refine tk 1 hHeld ?_
      refine tk 2 hHeld ?_
      refine tk 3 hHeld ?_
      refine tkl 4 rfl (yieldsIf_load_mid (by rfl) _ _ rfl _ _ rfl _ _ (fun _ h => h.1) Try.underlying36 rfl HSz.out.1) hHeld ?_
      refine tk 5 hHeld ?_
      refine tk 6 hHeld ?_
      refine tk 7 hHeld ?_
      refine tkl 8 rfl (yieldsIf_load_mid (by rfl) _ _ rfl _ _ rfl _ _ (fun _ h => h.2) Try.underlying36 rfl HSz.out.2) hHeld ?_
      refine rd 9 (fun K hK => ?_)
      go_simp
      refine (HCm.out _).mono ?_
      rintro e w1 ⟨rfl, b1⟩
      go_wp2_with fail
      refine hK.out _ _ (HS.out _ (bthen (bdrew (Below.refl _ _)) b1)) (fun hHeld => ?_)
      clear hK K
      refine tk 10 hHeld ?_
      refine tk 11 hHeld ?_
      refine wpAnyH_done (by kernel_rfl) ?_ _
      clear hHeld
      refine fin (fun W => Below wr.heap.size wr W) (bthen (bdrew (Below.refl _ _)) b1) ?_
      clear b1 HS HCm
      rintro W hbW
      have HBW := Lib.hid hbW
      clear hbW
      have HD2 := Lib.hid (HD.out.below HBW.out)
      by_cases hc : cc < 0
      · have hlt2 := Lib.hid (HCn.out.1 hc)
        have hc' : decide (cc < 0) = true := decide_eq_true hc
        clear HCn HD HBW
        rw [hc']
        go_wp2
        go_roundw
        case rel => exact ⟨lo, h, rfl, rfl, hlo, hl1, by omega, HD2.out, HC1.out, Or.inr ⟨y, HY.out, hlt2.out⟩⟩
        case measure => simp [ivl] <;> omega
      · have hlt2 : Hid (y.id ≤ v.id) := Lib.hid (by have := HCn.out; omega)
        have hc' : decide (cc < 0) = false := decide_eq_false hc
        clear HCn HD HBW
        rw [hc']
        go_wp2
        go_roundw
        case rel => exact ⟨h + 1, hi, by go_num, rfl, by omega, by omega, hhi, HD2.out, Or.inr ⟨y, by rw [show h + 1 - a - 1 = h - a by omega]; exact HY.out, hlt2.out⟩, HC2.out⟩
        case measure => simp [ivl] <;> omega
    · obtain rfl : hi = lo := by omega
      have hli : ¬ (hi : Int) < (hi : Int) := by omega
      obtain ⟨t, ht⟩ : ∃ t, t = hi - a := ⟨_, rfl⟩
      rw [← ht] at HC1 HC2
      have HF := Lib.hid (last_of HU.out (by omega) HC1.out HC2.out)
      have ht1 : a + t ≤ hi := by omega
      have ht2 : hi ≤ a + t := by omega
      clear ht HC1 HC2 HU
      go_wp2
      go_loopw [17] (fun v17 wr => ∃ j : Nat, v17 = .int .i64 ((a + j : Nat) : Int) ∧ t ≤ j ∧ j ≤ U.length ∧ DR w 36 g wr (insZ P U v Q j)) (fun v17 _ => (ivl v17).toNat)
      case atStart => exact ⟨U.length, by congr 1; omega, by omega, Nat.le_refl _, HD.out⟩
      case round =>
        clear HD
        obtain ⟨j, rfl, hj, hj2, hd⟩ := hrel
        have HD := Lib.hid hd
        clear hd
        obtain ⟨k, hk⟩ : ∃ k, k = a + j := ⟨_, rfl⟩
        rw [← hk]
        by_cases hlt : t < j
        · obtain ⟨i, rfl⟩ : ∃ i, j = i + 1 := ⟨j - 1, by omega⟩
          obtain ⟨y, hy⟩ : ∃ y, U[i]? = some y := ⟨_, List.getElem?_eq_getElem (by omega)⟩
          obtain ⟨hq, hs⟩ := HAn.out _ _ hy
          have hp := HAu.out (i + 1) (by omega)
          obtain ⟨Z, hZ⟩ : ∃ Z, Z = insZ P U v Q (i + 1) := ⟨_, rfl⟩
          have hZl : Z.length = n := by rw [hZ]; exact HLn.out (i + 1) (by omega)
          rw [← hZ] at hs hp hq HD
          rw [show a + i + 1 = k by omega] at hs
          rw [← hk] at hp
          obtain ⟨q, hqk⟩ : ∃ q, q = a + i := ⟨_, rfl⟩
          rw [← hqk] at hq hs
          have HRp := Lib.hid (HD.out.1.len_big hp)
          have HRq := Lib.hid (HD.out.1.len_big hq)
          have HN : Hid (∀ W', W' = ((wr.drew.setCells g (k * 12) (cRc y)).setCells g (q * 12) (cRc v)) → DR w 36 g W' ((Z.set k y).set q v)) := Lib.hid (fun W' e => by
            rw [e]
            exact HD.out.swap (by rw [hZl]; omega) (by rw [hZl]; omega) v y)
          rw [hs] at HN
          have hw1 : IntKind.i64.wrap ((k : Int) - 1) = (q : Int) := by rw [show (k : Int) - 1 = (q : Int) by omega]; exact IntWalk.i64_in _ (by omega)
          have p0 : (0 : Int) ≤ (k : Int) := by omega
          have p1 : (k : Int) < (n : Int) := by omega
          have q0 : (0 : Int) ≤ (q : Int) := by omega
          have q1 : (q : Int) < (n : Int) := by omega
          have hli2 : (hi : Int) < (k : Int) := by omega
          have HK := Lib.hid hk
          have HQ := Lib.hid hqk
          clear hk hs hp hq hy hZ hZl hqk HD
          go_upto_region 23 with fail
          refine swap_syB (p := k) (q := q) (Xp := cRc v) (Xq := cRc y) (fun _ _ d _ _ h => by cases d <;> exact h) hw1 p0 p1 q0 q1 rfl rfl (rc_all _) (rc_all _) HRp.out.1 HRq.out.1 HRp.out.2 HRq.out.2 ?_
          intro W hW
          have HD2 := Lib.hid (HN.out W hW)
          clear hW HN HRp HRq
          go_wp2
          go_roundw
          case rel => exact ⟨i, by have := HK.out; have := HQ.out; go_num, by omega, by omega, HD2.out⟩
          case measure => have := HK.out; have := HQ.out; simp [ivl] <;> omega
        · obtain rfl : j = t := by omega
          have hli2 : ¬ (hi : Int) < (k : Int) := by omega
          clear hk
          go_wp2
          (try simp only [Exit.inBlock, Exit.then])
          refine bodyPost_ret (results_none rfl _ _ _) rfl ?_
          exact ⟨rfl, U.take j ++ v :: U.drop j, by simp only [List.length_append, List.length_take, List.length_cons, List.length_drop]; omega, HF.out.2, HF.out.1, by have q := HD.out; unfold insZ at q; simpa only [List.append_assoc, List.cons_append] using q⟩
end Go.Proofs.Ytffbehcbokmpkaa
