/-
  The reference's store: what its Gone and Changed of layer 8 answer.
-/
import Derived.Test.YtcpgkkphibhdfaaGreatStoR
namespace Go.Proofs.YtcpgkkphibhdfaaGreat
open Go.RowKit

theorem LRes.mono {w w1 w' : World} {xs : List Int} {v : Value} (h : LRes w1 w' xs v) (hs : w.heap.size ≤ w1.heap.size) : LRes w w' xs v := by
  obtain ⟨a, cap, e, hr, hn⟩ := h
  exact ⟨a, cap, e, hr, hn.imp id (fun c ad ea => Nat.le_trans hs (c ad ea))⟩
def pickM (p : Int × Int → Bool) (l : List (Int × Int)) : List Int := (l.filter p).map Prod.fst
theorem pickM_yes {p : Int × Int → Bool} {l : List (Int × Int)} {k : Nat} {m : Int × Int} (h : l[k]? = some m) (hp : p m = true) : pickM p (l.take (k + 1)) = pickM p (l.take k) ++ [m.1] := by
  unfold pickM
  rw [List.take_add_one, List.filter_append, h]
  simp [hp]
theorem pickM_no {p : Int × Int → Bool} {l : List (Int × Int)} {k : Nat} {m : Int × Int} (h : l[k]? = some m) (hp : p m = false) : pickM p (l.take (k + 1)) = pickM p (l.take k) := by
  unfold pickM
  rw [List.take_add_one, List.filter_append, h]
  simp [hp]
theorem pickM_len (p : Int × Int → Bool) (l : List (Int × Int)) (k : Nat) : (pickM p (l.take k)).length ≤ l.length := by
  unfold pickM
  rw [List.length_map]
  refine Nat.le_trans (List.length_filter_le _ _) ?_
  rw [List.length_take]; omega
/-- a mark, for the walk -/
theorem colM_at {w : World} {a : Option Addr} {n cap : Nat} {l : List (Int × Int)} (h : ColM w (.slice a n cap) l) {k : Nat} (hk : k < l.length) : ∃ b m1 m2, a = some ⟨b, 0, none⟩ ∧ l[k]? = some (m1, m2) ∧ w.cell? ⟨b, k * 2, none⟩ = some (.int .i64 m1) ∧ w.cell? ⟨b, k * 2 + 1, none⟩ = some (.int .i64 m2) ∧ b < w.heap.size := by
  obtain ⟨m, hm⟩ : ∃ m, l[k]? = some m := ⟨_, List.getElem?_eq_getElem hk⟩
  have hm2 : (l.map mk8)[k]? = some (mk8 m) := by rw [List.getElem?_map, hm]; rfl
  obtain ⟨b, cap', cur, hv, hbk, _⟩ := ColX.open_ h (by rw [List.length_map]; omega)
  injection hv with h1 h2 h3
  subst h1
  have hrng := ColX.range (c := cM) (k := 2) (fun _ => rfl) h hm2
  exact ⟨b, m.1, m.2, rfl, hm, hrng 0 _ rfl, hrng 1 _ rfl, hbk.lt⟩

set_option maxHeartbeats 4000000 in
set_option maxRecDepth 100000 in
theorem rgone8_any {w : World} {g : Nat} {F : Nat → Prop} {S : St} (h0 : RB w g F S) (hB : Bd S 1000) (since : Int) :
    Calls Tryz.prog 36 #[.pointer (some ⟨g, 0, none⟩), .int .i64 since] w fun e w' => ∃ v, e = .returned v ∧ LRes w w' (goL S since) v ∧ Below w.heap.size w w' := by
  obtain ⟨tv, cv, gv, h, hF⟩ := h0
  obtain ⟨ca, ccap, hcv, hccap, hcmax⟩ := ColX.form h.gos
  have hcl : (S.go.map mk8).length = S.go.length := List.length_map _
  obtain ⟨n, hn⟩ : ∃ n, n = S.go.length := ⟨_, rfl⟩
  have hl := hB.2.1
  rw [hcl, ← hn] at hcv hccap
  rw [← hn] at hl
  have HN := Lib.hid hn
  have HV : Hid (∀ u, Below w.heap.size w u → u.cell? ⟨g, 579, none⟩ = some (.slice ca n ccap) ∧ g < u.heap.size ∧ ColM u (.slice ca n ccap) S.go) := Lib.hid (fun u k => by
    have h2 := h.keep k
    refine ⟨by rw [h2.row.cell (by omega), sF_go, hcv], h2.row.lt, ?_⟩
    have h3 := h2.gos
    rw [hcv] at h3
    exact h3)
  have HRs : Hid (goL S since = sortI (pickM (fun x => decide (since < x.2)) S.go)) := Lib.hid rfl
  obtain ⟨i0, hi0, hz0, hz1, hz2⟩ := info_parts id_info
  have HI := Lib.hid (And.intro hi0 (And.intro hz0 (And.intro hz1 hz2)))
  clear hi0 hz0 hz1 hz2 h hF hcl hn hcv hB
  go_enter Tryz.func36, Tryz.ntmps36
  go_wp2
  go_loopw [5, 6] (fun v5 i wr => ∃ k : Nat, k ≤ n ∧ i = .int .i64 k ∧ OwnD wr w.heap.size v5 (pickM (fun x => decide (since < x.2)) (S.go.take k)).length (pickM (fun x => decide (since < x.2)) (S.go.take k)) ∧ Below w.heap.size w wr) (fun _ i _ => n - (intOf i).toNat)
  case atStart => exact ⟨0, by omega, rfl, OwnD.nil _ _, Below.refl _ _⟩
  case round =>
    obtain ⟨k, hk, rfl, hown, hb⟩ := hrel
    have HOwn := Lib.hid hown
    have HB := Lib.hid hb
    clear hown hb
    obtain ⟨cc, hg, hcol⟩ := HV.out wr HB.out
    have hsz : w.heap.size ≤ wr.heap.size := HB.out.size
    by_cases hlt : k < n
    · obtain ⟨b, m1, m2, rfl, hm, c0, c1, hbl⟩ := colM_at hcol (k := k) (by rw [← HN.out]; exact hlt)
      have HM := Lib.hid hm
      have j0 : (0 : Int) ≤ (k : Int) := by omega
      have j1 : (k : Int) < (n : Int) := by omega
      have hpl := pickM_len (fun x => decide (since < x.2)) S.go k
      rw [← HN.out] at hpl
      obtain ⟨Q, hQ⟩ : ∃ Q, Q = pickM (fun x => decide (since < x.2)) (S.go.take k) := ⟨_, rfl⟩
      have HQ := Lib.hid hQ
      rw [← hQ] at HOwn hpl
      obtain ⟨nq, hnq⟩ : ∃ nq, nq = Q.length := ⟨_, rfl⟩
      have HNq := Lib.hid hnq
      rw [← hnq] at HOwn hpl
      clear hcol hm hQ hnq
      by_cases hs : since < m2
      · have HP : Hid (pickM (fun x => decide (since < x.2)) (S.go.take (k + 1)) = pickM (fun x => decide (since < x.2)) (S.go.take k) ++ [m1]) := Lib.hid (pickM_yes (p := (fun x => decide (since < x.2))) HM.out (by simpa using hs))
        go_wp2_with (at_builtin; refine wpList_append_own _ rfl (.tmp 26) (.tmp 35) 53 rfl w.heap.size 35 i0 (.int .i64 0) 1 8 Tryz.underlying53 HI.out.1 HI.out.2.1 HI.out.2.2.1 HI.out.2.2.2 rfl (by decide) _ _ _ rfl (HOwn.out.alloc _) ⟨wr.heap.size, 0, none⟩ 1 1 [.int .i64 m1] rfl rfl (cell_one_new _ _ _) (by intro u hu; simp at hu; subst hu; rfl) (by unfold maxLen; omega) (by omega) (by simp; omega) ?_)
        intro v' w2 hown' hgrow _
        have HO2 := Lib.hid hown'
        have HB2 := Lib.hid (grownD_below HOwn.out (Nat.le_refl _) HB.out hsz hgrow)
        clear hown' hgrow
        go_wp2
        go_roundw
        case rel =>
          refine ⟨k + 1, by omega, by go_num, ?_, HB2.out⟩
          have el : (pickM (fun x => decide (since < x.2)) (S.go.take (k + 1))).length = nq + 1 := by rw [HP.out, ← HQ.out, List.length_append, ← HNq.out]; rfl
          rw [el]
          unfold OwnD
          rw [HP.out, ← HQ.out, List.map_append]
          exact HO2.out
        case measure => simp [intOf] <;> omega
      · have HP : Hid (pickM (fun x => decide (since < x.2)) (S.go.take (k + 1)) = pickM (fun x => decide (since < x.2)) (S.go.take k)) := Lib.hid (pickM_no (p := (fun x => decide (since < x.2))) HM.out (by simpa using hs))
        go_wp2
        go_roundw
        case rel => exact ⟨k + 1, by omega, by go_num, by rw [HP.out, ← HQ.out, ← HNq.out]; exact HOwn.out, HB.out⟩
        case measure => simp [intOf] <;> omega
    · obtain rfl : k = n := by omega
      rw [List.take_of_length_le (by rw [← HN.out]; exact Nat.le_refl _)] at HOwn
      have hpl := pickM_len (fun x => decide (since < x.2)) S.go S.go.length
      rw [List.take_length, ← HN.out] at hpl
      obtain ⟨Q, hQ⟩ : ∃ Q, Q = pickM (fun x => decide (since < x.2)) S.go := ⟨_, rfl⟩
      rw [← hQ] at HOwn hpl HRs
      obtain ⟨qa, qcap, hqv, hqr⟩ := HOwn.out.row
      subst hqv
      obtain ⟨nq, hnq⟩ : ∃ nq, nq = Q.length := ⟨_, rfl⟩
      rw [← hnq] at hqr hpl ⊢
      have HQr := Lib.hid hqr
      have k2 : ¬ (k : Int) < (k : Int) := by omega
      clear hcol hqr hQ hnq HOwn
      go_wp2_with fail
      refine (rsorted_any qa nq qcap Q wr HQr.out (by omega)).mono ?_
      rintro e w2 ⟨v, rfl, lr, b2⟩
      have HLr := Lib.hid (LRes.mono lr hsz)
      replace HB := Lib.hid (bthen HB.out b2)
      obtain ⟨va, vcap, hvv, _, _⟩ := lr
      clear b2
      subst hvv
      go_wp2
      go_ret
      exact ⟨_, rfl, by rw [HRs.out]; exact HLr.out, HB.out⟩

set_option maxHeartbeats 4000000 in
set_option maxRecDepth 100000 in
theorem rchanged8_any {w : World} {g : Nat} {F : Nat → Prop} {S : St} (h0 : RB w g F S) (hB : Bd S 1000) (since : Int) :
    Calls Tryz.prog 35 #[.pointer (some ⟨g, 0, none⟩), .int .i64 since] w fun e w' => ∃ v, e = .returned v ∧ LRes w w' (chL S since) v ∧ Below w.heap.size w w' := by
  obtain ⟨tv, cv, gv, h, hF⟩ := h0
  obtain ⟨ca, ccap, hcv, hccap, hcmax⟩ := ColX.form h.chs
  have hcl : (S.ch.map mk8).length = S.ch.length := List.length_map _
  obtain ⟨n, hn⟩ : ∃ n, n = S.ch.length := ⟨_, rfl⟩
  have hl := hB.1
  rw [hcl, ← hn] at hcv hccap
  rw [← hn] at hl
  have HN := Lib.hid hn
  have HV : Hid (∀ u, Below w.heap.size w u → u.cell? ⟨g, 578, none⟩ = some (.slice ca n ccap) ∧ g < u.heap.size ∧ ColM u (.slice ca n ccap) S.ch) := Lib.hid (fun u k => by
    have h2 := h.keep k
    refine ⟨by rw [h2.row.cell (by omega), sF_ch, hcv], h2.row.lt, ?_⟩
    have h3 := h2.chs
    rw [hcv] at h3
    exact h3)
  have HLv : Hid (∀ u x, Below w.heap.size w u → Calls Tryz.prog 63 #[.pointer (some ⟨g, 0, none⟩), .int .i64 x] u fun e w' => e = .returned (.bool (liveS S x)) ∧ u = w') := Lib.hid (fun u x k => plive8 (E := stE tv S.now cv gv) (t := 89) (N := 580) (by omega) g S.room S.G S.L x u (h.keep k).row)
  have HRs : Hid (chL S since = sortI (pickM (fun x => liveS S x.1 && decide (since < x.2)) S.ch)) := Lib.hid rfl
  obtain ⟨i0, hi0, hz0, hz1, hz2⟩ := info_parts id_info
  have HI := Lib.hid (And.intro hi0 (And.intro hz0 (And.intro hz1 hz2)))
  clear hi0 hz0 hz1 hz2 h hF hcl hn hcv hB
  go_enter Tryz.func35, Tryz.ntmps35
  go_wp2
  go_loopw [5, 6, 7] (fun v5 i _ wr => ∃ k : Nat, k ≤ n ∧ i = .int .i64 k ∧ OwnD wr w.heap.size v5 (pickM (fun x => liveS S x.1 && decide (since < x.2)) (S.ch.take k)).length (pickM (fun x => liveS S x.1 && decide (since < x.2)) (S.ch.take k)) ∧ Below w.heap.size w wr) (fun _ i _ _ => n - (intOf i).toNat)
  case atStart => exact ⟨0, by omega, rfl, OwnD.nil _ _, Below.refl _ _⟩
  case round =>
    obtain ⟨k, hk, rfl, hown, hb⟩ := hrel
    have HOwn := Lib.hid hown
    have HB := Lib.hid hb
    clear hown hb
    obtain ⟨cc, hg, hcol⟩ := HV.out wr HB.out
    have hsz : w.heap.size ≤ wr.heap.size := HB.out.size
    by_cases hlt : k < n
    · obtain ⟨b, m1, m2, rfl, hm, c0, c1, hbl⟩ := colM_at hcol (k := k) (by rw [← HN.out]; exact hlt)
      have HM := Lib.hid hm
      have j0 : (0 : Int) ≤ (k : Int) := by omega
      have j1 : (k : Int) < (n : Int) := by omega
      have hpl := pickM_len (fun x => liveS S x.1 && decide (since < x.2)) S.ch k
      rw [← HN.out] at hpl
      obtain ⟨Q, hQ⟩ : ∃ Q, Q = pickM (fun x => liveS S x.1 && decide (since < x.2)) (S.ch.take k) := ⟨_, rfl⟩
      have HQ := Lib.hid hQ
      rw [← hQ] at HOwn hpl
      obtain ⟨nq, hnq⟩ : ∃ nq, nq = Q.length := ⟨_, rfl⟩
      have HNq := Lib.hid hnq
      rw [← hnq] at HOwn hpl
      clear hcol hm hQ hnq
      obtain ⟨lv, hlv⟩ : ∃ lv, lv = liveS S m1 := ⟨_, rfl⟩
      have HBd : Hid (Below w.heap.size w wr.drew) := Lib.hid ⟨HB.out.os, HB.out.tape, HB.out.output, HB.out.size, HB.out.block⟩
      have HLm : Hid (Calls Tryz.prog 63 #[.pointer (some ⟨g, 0, none⟩), .int .i64 m1] wr.drew fun e w' => e = .returned (.bool lv) ∧ wr.drew = w') := Lib.hid (by rw [hlv]; exact HLv.out _ _ HBd.out)
      have HLe := Lib.hid hlv
      have HSS : Hid (wr.drew.cell? ⟨g, 578, none⟩ = some (.slice (some ⟨b, 0, none⟩) n ccap) ∧ wr.drew.cell? ⟨b, k * 2, none⟩ = some (.int .i64 m1)) := Lib.hid ⟨cc, c0⟩
      clear hlv
      go_upto_region 5 with fail
      refine wp_region_held_drew (S := fun w' => w'.cell? ⟨g, 578, none⟩ = some (.slice (some ⟨b, 0, none⟩) n ccap) ∧ w'.cell? ⟨b, k * 2, none⟩ = some (.int .i64 m1)) (by kernel_rfl) (HSS.out) (fun hHeld => ?_)
      refine wpAnyH_take (i := 0) (v := ?_) rfl (by kernel_rfl) (by kernel_rfl) (by kernel_rfl) (fun _ _ _ h => h) (Or.inl ⟨by rfl, ?_⟩) hHeld ?_
      rotate_left
      · intro w hSw
        obtain ⟨s1, s2⟩ := hSw
        go_simp
        with_reducible rfl
      simp only [Act.put, List.getElem_toArray, List.getElem_cons_zero, List.setIfInBounds_toArray, List.set_cons_zero, List.set_cons_succ]
      refine wpAnyH_take (i := 1) (v := ?_) rfl (by kernel_rfl) (by kernel_rfl) (by kernel_rfl) (fun _ _ _ h => h) (Or.inl ⟨by rfl, ?_⟩) hHeld ?_
      rotate_left
      · intro w hSw
        obtain ⟨s1, s2⟩ := hSw
        go_simp
        with_reducible rfl
      simp only [Act.put, List.getElem_toArray, List.getElem_cons_zero, List.getElem_cons_succ, List.setIfInBounds_toArray, List.set_cons_zero, List.set_cons_succ]
      refine wpAnyH_take (i := 2) (v := ?_) rfl (by kernel_rfl) (by kernel_rfl) (by kernel_rfl) (fun _ _ _ h => h) (Or.inl ⟨by rfl, ?_⟩) hHeld ?_
      rotate_left
      · intro w hSw
        obtain ⟨s1, s2⟩ := hSw
        go_simp
        with_reducible rfl
      simp only [Act.put, List.getElem_toArray, List.getElem_cons_zero, List.getElem_cons_succ, List.setIfInBounds_toArray, List.set_cons_zero, List.set_cons_succ]
      refine wpAnyH_take (i := 3) (v := ?_) rfl (by kernel_rfl) (by kernel_rfl) (by kernel_rfl) (fun _ _ _ h => h) (Or.inl ⟨by rfl, ?_⟩) hHeld ?_
      rotate_left
      · intro w hSw
        obtain ⟨s1, s2⟩ := hSw
        go_simp
        with_reducible rfl
      simp only [Act.put, List.getElem_toArray, List.getElem_cons_zero, List.getElem_cons_succ, List.setIfInBounds_toArray, List.set_cons_zero, List.set_cons_succ]
      refine wpAnyH_take (i := 4) (v := ?_) rfl (by kernel_rfl) (by kernel_rfl) (by kernel_rfl) (fun _ _ _ h => h) (Or.inl ⟨by rfl, ?_⟩) hHeld ?_
      rotate_left
      · intro w hSw
        obtain ⟨s1, s2⟩ := hSw
        go_simp
        with_reducible rfl
      simp only [Act.put, List.getElem_toArray, List.getElem_cons_zero, List.getElem_cons_succ, List.setIfInBounds_toArray, List.set_cons_zero, List.set_cons_succ]
      refine wpAnyH_take (i := 5) (v := ?_) rfl (by kernel_rfl) (by kernel_rfl) (by kernel_rfl) (fun _ _ _ h => h) (Or.inl ⟨by rfl, ?_⟩) hHeld ?_
      rotate_left
      · intro w hSw
        obtain ⟨s1, s2⟩ := hSw
        go_simp
        with_reducible rfl
      simp only [Act.put, List.getElem_toArray, List.getElem_cons_zero, List.getElem_cons_succ, List.setIfInBounds_toArray, List.set_cons_zero, List.set_cons_succ]
      refine wpAnyH_take (i := 6) (v := ?_) rfl (by kernel_rfl) (by kernel_rfl) (by kernel_rfl) (fun _ _ _ h => h) (Or.inl ⟨by rfl, ?_⟩) hHeld ?_
      rotate_left
      · intro w hSw
        obtain ⟨s1, s2⟩ := hSw
        go_simp
        with_reducible rfl
      simp only [Act.put, List.getElem_toArray, List.getElem_cons_zero, List.getElem_cons_succ, List.setIfInBounds_toArray, List.set_cons_zero, List.set_cons_succ]
      refine wpAnyH_take (i := 7) (v := ?_) rfl (by kernel_rfl) (by kernel_rfl) (by kernel_rfl) (fun _ _ _ h => h) (Or.inl ⟨by rfl, ?_⟩) hHeld ?_
      rotate_left
      · intro w hSw
        obtain ⟨s1, s2⟩ := hSw
        go_simp
        with_reducible rfl
      simp only [Act.put, List.getElem_toArray, List.getElem_cons_zero, List.getElem_cons_succ, List.setIfInBounds_toArray, List.set_cons_zero, List.set_cons_succ]
      refine wpAnyH_take (i := 8) (v := ?_) rfl (by kernel_rfl) (by kernel_rfl) (by kernel_rfl) (fun _ _ _ h => h) (Or.inl ⟨by rfl, ?_⟩) hHeld ?_
      rotate_left
      · intro w hSw
        obtain ⟨s1, s2⟩ := hSw
        go_simp
        with_reducible rfl
      simp only [Act.put, List.getElem_toArray, List.getElem_cons_zero, List.getElem_cons_succ, List.setIfInBounds_toArray, List.set_cons_zero, List.set_cons_succ]
      refine wpAnyH_take (i := 9) (v := ?_) rfl (by kernel_rfl) (by kernel_rfl) (by kernel_rfl) (fun _ _ _ h => h) (Or.inl ⟨by rfl, ?_⟩) hHeld ?_
      rotate_left
      · intro w hSw
        obtain ⟨s1, s2⟩ := hSw
        go_simp
        with_reducible rfl
      simp only [Act.put, List.getElem_toArray, List.getElem_cons_zero, List.getElem_cons_succ, List.setIfInBounds_toArray, List.set_cons_zero, List.set_cons_succ]
      refine wpAnyH_take (i := 10) (v := ?_) rfl (by kernel_rfl) (by kernel_rfl) (by kernel_rfl) (fun _ _ _ h => h) (Or.inl ⟨by rfl, ?_⟩) hHeld ?_
      rotate_left
      · intro w hSw
        obtain ⟨s1, s2⟩ := hSw
        go_simp
        with_reducible rfl
      simp only [Act.put, List.getElem_toArray, List.getElem_cons_zero, List.getElem_cons_succ, List.setIfInBounds_toArray, List.set_cons_zero, List.set_cons_succ]
      refine wpAnyH_ready (rs := [11]) (by kernel_rfl) (by simp) ?_
      refine AllReadyH.cons rfl (fun K hK => ?_) AllReadyH.nil
      go_simp
      go_at_call 63
      refine (HLm.out).mono ?_
      rintro e w2 ⟨rfl, rfl⟩
      go_wp2_with fail
      refine hK.out _ _ (HSS.out) (fun hHeld => ?_)
      clear hK K
      refine wpAnyH_take (i := 12) (v := ?_) rfl (by kernel_rfl) (by kernel_rfl) (by kernel_rfl) (fun _ _ _ h => h) (Or.inl ⟨by rfl, ?_⟩) hHeld ?_
      rotate_left
      · intro w hSw
        obtain ⟨s1, s2⟩ := hSw
        go_simp
        with_reducible rfl
      simp only [Act.put, List.getElem_toArray, List.getElem_cons_zero, List.getElem_cons_succ, List.setIfInBounds_toArray, List.set_cons_zero, List.set_cons_succ]
      refine wpAnyH_done (by kernel_rfl) ?_ _
      clear hHeld HLm
      refine fin (fun W => OwnD W w.heap.size u5 nq Q ∧ Below w.heap.size w W ∧ W.cell? ⟨g, 578, none⟩ = some (.slice (some ⟨b, 0, none⟩) n ccap) ∧ W.cell? ⟨b, k * 2, none⟩ = some (.int .i64 m1) ∧ W.cell? ⟨b, k * 2 + 1, none⟩ = some (.int .i64 m2) ∧ g < W.heap.size ∧ b < W.heap.size) (W := wr.drew) ⟨HOwn.out, HBd.out, cc, c0, c1, hg, hbl⟩ ?_
      clear HOwn HB HBd cc c0 c1 hg hbl HSS hsz
      rintro W1 ⟨ho, hb, cc, c0, c1, hg, hbl⟩
      have HO1 := Lib.hid ho
      have HB1 := Lib.hid hb
      have hs1 := hb.size
      clear ho hb
      cases lv with
      | false =>
        have HP : Hid (pickM (fun x => liveS S x.1 && decide (since < x.2)) (S.ch.take (k + 1)) = pickM (fun x => liveS S x.1 && decide (since < x.2)) (S.ch.take k)) := Lib.hid (pickM_no (p := (fun x => liveS S x.1 && decide (since < x.2))) HM.out (by show (liveS S m1 && decide (since < m2)) = false; rw [← HLe.out]; rfl))
        go_wp2
        go_roundw
        case rel => exact ⟨k + 1, by omega, by go_num, by rw [HP.out, ← HQ.out, ← HNq.out]; exact HO1.out, HB1.out⟩
        case measure => simp [intOf] <;> omega
      | true =>
        by_cases hs : since < m2
        · have HP : Hid (pickM (fun x => liveS S x.1 && decide (since < x.2)) (S.ch.take (k + 1)) = pickM (fun x => liveS S x.1 && decide (since < x.2)) (S.ch.take k) ++ [m1]) := Lib.hid (pickM_yes (p := (fun x => liveS S x.1 && decide (since < x.2))) HM.out (by show (liveS S m1 && decide (since < m2)) = true; rw [← HLe.out]; simpa using hs))
          go_wp2_with (at_builtin; refine wpList_append_own _ rfl (.tmp 42) (.tmp 51) 53 rfl w.heap.size 35 i0 (.int .i64 0) 1 8 Tryz.underlying53 HI.out.1 HI.out.2.1 HI.out.2.2.1 HI.out.2.2.2 rfl (by decide) _ _ _ rfl (HO1.out.alloc _) ⟨W1.heap.size, 0, none⟩ 1 1 [.int .i64 m1] rfl rfl (cell_one_new _ _ _) (by intro u hu; simp at hu; subst hu; rfl) (by unfold maxLen; omega) (by omega) (by simp; omega) ?_)
          intro v' w2 hown' hgrow _
          have HO2 := Lib.hid hown'
          have HB2 := Lib.hid (grownD_below HO1.out (Nat.le_refl _) HB1.out hs1 hgrow)
          clear hown' hgrow
          go_wp2
          go_roundw
          case rel =>
            refine ⟨k + 1, by omega, by go_num, ?_, HB2.out⟩
            have el : (pickM (fun x => liveS S x.1 && decide (since < x.2)) (S.ch.take (k + 1))).length = nq + 1 := by rw [HP.out, ← HQ.out, List.length_append, ← HNq.out]; rfl
            rw [el]
            unfold OwnD
            rw [HP.out, ← HQ.out, List.map_append]
            exact HO2.out
          case measure => simp [intOf] <;> omega
        · have HP : Hid (pickM (fun x => liveS S x.1 && decide (since < x.2)) (S.ch.take (k + 1)) = pickM (fun x => liveS S x.1 && decide (since < x.2)) (S.ch.take k)) := Lib.hid (pickM_no (p := (fun x => liveS S x.1 && decide (since < x.2))) HM.out (by show (liveS S m1 && decide (since < m2)) = false; rw [← HLe.out]; simpa using hs))
          go_wp2
          go_roundw
          case rel => exact ⟨k + 1, by omega, by go_num, by rw [HP.out, ← HQ.out, ← HNq.out]; exact HO1.out, HB1.out⟩
          case measure => simp [intOf] <;> omega
    · obtain rfl : k = n := by omega
      rw [List.take_of_length_le (by rw [← HN.out]; exact Nat.le_refl _)] at HOwn
      have hpl := pickM_len (fun x => liveS S x.1 && decide (since < x.2)) S.ch S.ch.length
      rw [List.take_length, ← HN.out] at hpl
      obtain ⟨Q, hQ⟩ : ∃ Q, Q = pickM (fun x => liveS S x.1 && decide (since < x.2)) S.ch := ⟨_, rfl⟩
      rw [← hQ] at HOwn hpl HRs
      obtain ⟨qa, qcap, hqv, hqr⟩ := HOwn.out.row
      subst hqv
      obtain ⟨nq, hnq⟩ : ∃ nq, nq = Q.length := ⟨_, rfl⟩
      rw [← hnq] at hqr hpl ⊢
      have HQr := Lib.hid hqr
      have k2 : ¬ (k : Int) < (k : Int) := by omega
      clear hcol hqr hQ hnq HOwn
      go_wp2_with fail
      refine (rsorted_any qa nq qcap Q wr HQr.out (by omega)).mono ?_
      rintro e w2 ⟨v, rfl, lr, b2⟩
      have HLr := Lib.hid (LRes.mono lr hsz)
      replace HB := Lib.hid (bthen HB.out b2)
      obtain ⟨va, vcap, hvv, _, _⟩ := lr
      clear b2
      subst hvv
      go_wp2
      go_ret
      exact ⟨_, rfl, by rw [HRs.out]; exact HLr.out, HB.out⟩

end Go.Proofs.YtcpgkkphibhdfaaGreat
