/-
  2 texts in one file, each with its own heading.
-/
import Derived.Test.YtkondkajpmafkaaGreatMP24
/-
  The reference's store: what its Gone and Changed of layer 8 answer.
-/
namespace Go.Proofs.YtkondkajpmafkaaGreat
open Go.RowKit

theorem LRes.mono {w w1 w' : World} {xs : List Int} {v : Value} (h : LRes w1 w' xs v) (hs : w.heap.size ≤ w1.heap.size) : LRes w w' xs v := by
  obtain ⟨a, cap, e, hr, hn⟩ := h
  exact ⟨a, cap, e, hr, hn.imp id (fun c ad ea => Nat.le_trans hs (c ad ea))⟩
def pickM (p : Int × Int → Bool) (l : List (Int × Int)) : List Int := (l.filter p).map Prod.fst
theorem pickM_yes {p : Int × Int → Bool} {l : List (Int × Int)} {k : Nat} {m : Int × Int} (h : l[k]? = some m) (hp : p m = true) : pickM p (l.take (k + 1)) = pickM p (l.take k) ++ [m.1] := by
  unfold pickM
  rw [List.take_add_one, List.filter_append, h]
  simp [hp]
theorem pickM_no {p : Int × Int → Bool} {l : List (Int × Int)} {k : Nat} {m : Int × Int} (h : l[k]? = some m) (hp : p m = false) : pickM p (l.take (k + 1)) = pickM p (l.take k) := by
  unfold pickM
  rw [List.take_add_one, List.filter_append, h]
  simp [hp]
theorem pickM_len (p : Int × Int → Bool) (l : List (Int × Int)) (k : Nat) : (pickM p (l.take k)).length ≤ l.length := by
  unfold pickM
  rw [List.length_map]
  refine Nat.le_trans (List.length_filter_le _ _) ?_
  rw [List.length_take]; omega
theorem colM_at {w : World} {a : Option Addr} {n cap : Nat} {l : List (Int × Int)} (h : ColM w (.slice a n cap) l) {k : Nat} (hk : k < l.length) : ∃ b m1 m2, a = some ⟨b, 0, none⟩ ∧ l[k]? = some (m1, m2) ∧ w.cell? ⟨b, k * 2, none⟩ = some (.int .i64 m1) ∧ w.cell? ⟨b, k * 2 + 1, none⟩ = some (.int .i64 m2) ∧ b < w.heap.size := by
  obtain ⟨m, hm⟩ : ∃ m, l[k]? = some m := ⟨_, List.getElem?_eq_getElem hk⟩
  have hm2 : (l.map mk8)[k]? = some (mk8 m) := by rw [List.getElem?_map, hm]; rfl
  obtain ⟨b, cap', cur, hv, hbk, _⟩ := ColX.open_ h (by rw [List.length_map]; omega)
  injection hv with h1 h2 h3
  subst h1
  have hrng := ColX.range (c := cM) (k := 2) (fun _ => rfl) h hm2
  exact ⟨b, m.1, m.2, rfl, hm, hrng 0 _ rfl, hrng 1 _ rfl, hbk.lt⟩

set_option maxHeartbeats 4000000 in
set_option maxRecDepth 100000 in
theorem rgone8_any {w : World} {g : Nat} {F : Nat → Prop} {S : St} (h0 : RB w g F S) (hB : Bd S 1000) (since : Int) :
    Calls Tryz.prog 41 #[.pointer (some ⟨g, 0, none⟩), .int .i64 since] w fun e w' => ∃ v, e = .returned v ∧ LRes w w' (goL S since) v ∧ Below w.heap.size w w' := by
  obtain ⟨tv, cv, gv, h, hF⟩ := h0
  obtain ⟨ca, ccap, hcv, hccap, hcmax⟩ := ColX.form h.gos
  have hcl : (S.go.map mk8).length = S.go.length := List.length_map _
  obtain ⟨n, hn⟩ : ∃ n, n = S.go.length := ⟨_, rfl⟩
  have hl := hB.2.1
  rw [hcl, ← hn] at hcv hccap
  rw [← hn] at hl
  have HN := Lib.hid hn
  have HV : Hid (∀ u, Below w.heap.size w u → u.cell? ⟨g, 579, none⟩ = some (.slice ca n ccap) ∧ g < u.heap.size ∧ ColM u (.slice ca n ccap) S.go) := Lib.hid (fun u k => by
    have h2 := h.keep k
    refine ⟨by rw [h2.row.cell (by omega), sF_go, hcv], h2.row.lt, ?_⟩
    have h3 := h2.gos
    rw [hcv] at h3
    exact h3)
  have HRs : Hid (goL S since = sortI (pickM (fun x => decide (since < x.2)) S.go)) := Lib.hid rfl
  obtain ⟨i0, hi0, hz0, hz1, hz2⟩ := info_parts id_info
  have HI := Lib.hid (And.intro hi0 (And.intro hz0 (And.intro hz1 hz2)))
  clear hi0 hz0 hz1 hz2 h hF hcl hn hcv hB
  go_enter Tryz.func41, Tryz.ntmps41
  go_wp2
  go_loopw [5, 6] (fun v5 i wr => ∃ k : Nat, k ≤ n ∧ i = .int .i64 k ∧ OwnD wr w.heap.size v5 (pickM (fun x => decide (since < x.2)) (S.go.take k)).length (pickM (fun x => decide (since < x.2)) (S.go.take k)) ∧ Below w.heap.size w wr) (fun _ i _ => n - (intOf i).toNat)
  case atStart => exact ⟨0, by omega, rfl, OwnD.nil _ _, Below.refl _ _⟩
  case round =>
    obtain ⟨k, hk, rfl, hown, hb⟩ := hrel
    have HOwn := Lib.hid hown
    have HB := Lib.hid hb
    clear hown hb
    obtain ⟨cc, hg, hcol⟩ := HV.out wr HB.out
    have hsz : w.heap.size ≤ wr.heap.size := HB.out.size
    by_cases hlt : k < n
    · obtain ⟨b, m1, m2, rfl, hm, c0, c1, hbl⟩ := colM_at hcol (k := k) (by rw [← HN.out]; exact hlt)
      have HM := Lib.hid hm
      have j0 : (0 : Int) ≤ (k : Int) := by omega
      have j1 : (k : Int) < (n : Int) := by omega
      have hpl := pickM_len (fun x => decide (since < x.2)) S.go k
      rw [← HN.out] at hpl
      obtain ⟨Q, hQ⟩ : ∃ Q, Q = pickM (fun x => decide (since < x.2)) (S.go.take k) := ⟨_, rfl⟩
      have HQ := Lib.hid hQ
      rw [← hQ] at HOwn hpl
      obtain ⟨nq, hnq⟩ : ∃ nq, nq = Q.length := ⟨_, rfl⟩
      have HNq := Lib.hid hnq
      rw [← hnq] at HOwn hpl
      clear hcol hm hQ hnq
      by_cases hs : since < m2
      · have HP : Hid (pickM (fun x => decide (since < x.2)) (S.go.take (k + 1)) = pickM (fun x => decide (since < x.2)) (S.go.take k) ++ [m1]) := Lib.hid (pickM_yes (p := (fun x => decide (since < x.2))) HM.out (by simpa using hs))
        go_wp2_with (at_builtin; refine wpList_append_own _ rfl (.tmp 26) (.tmp 35) 53 rfl w.heap.size 31 i0 (.int .i64 0) 1 8 Tryz.underlying53 HI.out.1 HI.out.2.1 HI.out.2.2.1 HI.out.2.2.2 rfl (by decide) _ _ _ rfl (HOwn.out.alloc _) ⟨wr.heap.size, 0, none⟩ 1 1 [.int .i64 m1] rfl rfl (cell_one_new _ _ _) (by intro u hu; simp at hu; subst hu; rfl) (by unfold maxLen; omega) (by omega) (by simp; omega) ?_)
        intro v' w2 hown' hgrow _
        have HO2 := Lib.hid hown'
        have HB2 := Lib.hid (grownD_below HOwn.out (Nat.le_refl _) HB.out hsz hgrow)
        clear hown' hgrow
        go_wp2
        go_roundw
        case rel =>
          refine ⟨k + 1, by omega, by go_num, ?_, HB2.out⟩
          have el : (pickM (fun x => decide (since < x.2)) (S.go.take (k + 1))).length = nq + 1 := by rw [HP.out, ← HQ.out, List.length_append, ← HNq.out]; rfl
          rw [el]
          unfold OwnD
          rw [HP.out, ← HQ.out, List.map_append]
          exact HO2.out
        case measure => simp [intOf] <;> omega
      · have HP : Hid (pickM (fun x => decide (since < x.2)) (S.go.take (k + 1)) = pickM (fun x => decide (since < x.2)) (S.go.take k)) := Lib.hid (pickM_no (p := (fun x => decide (since < x.2))) HM.out (by simpa using hs))
        go_wp2
        go_roundw
        case rel => exact ⟨k + 1, by omega, by go_num, by rw [HP.out, ← HQ.out, ← HNq.out]; exact HOwn.out, HB.out⟩
        case measure => simp [intOf] <;> omega
    · obtain rfl : k = n := by omega
      rw [List.take_of_length_le (by rw [← HN.out]; exact Nat.le_refl _)] at HOwn
      have hpl := pickM_len (fun x => decide (since < x.2)) S.go S.go.length
      rw [List.take_length, ← HN.out] at hpl
      obtain ⟨Q, hQ⟩ : ∃ Q, Q = pickM (fun x => decide (since < x.2)) S.go := ⟨_, rfl⟩
      rw [← hQ] at HOwn hpl HRs
      obtain ⟨qa, qcap, hqv, hqr⟩ := HOwn.out.row
      subst hqv
      obtain ⟨nq, hnq⟩ : ∃ nq, nq = Q.length := ⟨_, rfl⟩
      rw [← hnq] at hqr hpl ⊢
      have HQr := Lib.hid hqr
      have k2 : ¬ (k : Int) < (k : Int) := by omega
      clear hcol hqr hQ hnq HOwn
      go_wp2_with fail
      refine (rsorted_any qa nq qcap Q wr HQr.out (by omega)).mono ?_
      rintro e w2 ⟨v, rfl, lr, b2⟩
      have HLr := Lib.hid (LRes.mono lr hsz)
      replace HB := Lib.hid (bthen HB.out b2)
      obtain ⟨va, vcap, hvv, _, _⟩ := lr
      clear b2
      subst hvv
      go_wp2
      go_ret
      exact ⟨_, rfl, by rw [HRs.out]; exact HLr.out, HB.out⟩

set_option maxHeartbeats 4000000 in
set_option maxRecDepth 100000 in
theorem rchanged8_any {w : World} {g : Nat} {F : Nat → Prop} {S : St} (h0 : RB w g F S) (hB : Bd S 1000) (since : Int) :
    Calls Tryz.prog 40 #[.pointer (some ⟨g, 0, none⟩), .int .i64 since] w fun e w' => ∃ v, e = .returned v ∧ LRes w w' (chL S since) v ∧ Below w.heap.size w w' := by
  obtain ⟨tv, cv, gv, h, hF⟩ := h0
  obtain ⟨ca, ccap, hcv, hccap, hcmax⟩ := ColX.form h.chs
  have hcl : (S.ch.map mk8).length = S.ch.length := List.length_map _
  obtain ⟨n, hn⟩ : ∃ n, n = S.ch.length := ⟨_, rfl⟩
  have hl := hB.1
  rw [hcl, ← hn] at hcv hccap
  rw [← hn] at hl
  have HN := Lib.hid hn
  have HV : Hid (∀ u, Below w.heap.size w u → u.cell? ⟨g, 578, none⟩ = some (.slice ca n ccap) ∧ g < u.heap.size ∧ ColM u (.slice ca n ccap) S.ch) := Lib.hid (fun u k => by
    have h2 := h.keep k
    refine ⟨by rw [h2.row.cell (by omega), sF_ch, hcv], h2.row.lt, ?_⟩
    have h3 := h2.chs
    rw [hcv] at h3
    exact h3)
  have HLv : Hid (∀ u x, Below w.heap.size w u → Calls Tryz.prog 76 #[.pointer (some ⟨g, 0, none⟩), .int .i64 x] u fun e w' => e = .returned (.bool (liveS S x)) ∧ u = w') := Lib.hid (fun u x k => plive8 (E := stE tv S.now cv gv) (t := 96) (N := 580) (by omega) g S.room S.G S.L x u (h.keep k).row)
  have HRs : Hid (chL S since = sortI (pickM (fun x => liveS S x.1 && decide (since < x.2)) S.ch)) := Lib.hid rfl
  obtain ⟨i0, hi0, hz0, hz1, hz2⟩ := info_parts id_info
  have HI := Lib.hid (And.intro hi0 (And.intro hz0 (And.intro hz1 hz2)))
  clear hi0 hz0 hz1 hz2 h hF hcl hn hcv hB
  go_enter Tryz.func40, Tryz.ntmps40
  go_wp2
  go_loopw [5, 6, 7] (fun v5 i _ wr => ∃ k : Nat, k ≤ n ∧ i = .int .i64 k ∧ OwnD wr w.heap.size v5 (pickM (fun x => liveS S x.1 && decide (since < x.2)) (S.ch.take k)).length (pickM (fun x => liveS S x.1 && decide (since < x.2)) (S.ch.take k)) ∧ Below w.heap.size w wr) (fun _ i _ _ => n - (intOf i).toNat)
  case atStart => exact ⟨0, by omega, rfl, OwnD.nil _ _, Below.refl _ _⟩
  case round =>
    obtain ⟨k, hk, rfl, hown, hb⟩ := hrel
    have HOwn := Lib.hid hown
    have HB := Lib.hid hb
    clear hown hb
    obtain ⟨cc, hg, hcol⟩ := HV.out wr HB.out
    have hsz : w.heap.size ≤ wr.heap.size := HB.out.size
    by_cases hlt : k < n
    · obtain ⟨b, m1, m2, rfl, hm, c0, c1, hbl⟩ := colM_at hcol (k := k) (by rw [← HN.out]; exact hlt)
      have HM := Lib.hid hm
      have j0 : (0 : Int) ≤ (k : Int) := by omega
      have j1 : (k : Int) < (n : Int) := by omega
      have hpl := pickM_len (fun x => liveS S x.1 && decide (since < x.2)) S.ch k
      rw [← HN.out] at hpl
      obtain ⟨Q, hQ⟩ : ∃ Q, Q = pickM (fun x => liveS S x.1 && decide (since < x.2)) (S.ch.take k) := ⟨_, rfl⟩
      have HQ := Lib.hid hQ
      rw [← hQ] at HOwn hpl
      obtain ⟨nq, hnq⟩ : ∃ nq, nq = Q.length := ⟨_, rfl⟩
      have HNq := Lib.hid hnq
      rw [← hnq] at HOwn hpl
      clear hcol hm hQ hnq
      obtain ⟨lv, hlv⟩ : ∃ lv, lv = liveS S m1 := ⟨_, rfl⟩
      have HBd : Hid (Below w.heap.size w wr.drew) := Lib.hid ⟨HB.out.os, HB.out.tape, HB.out.output, HB.out.size, HB.out.block⟩
      have HLm : Hid (Calls Tryz.prog 76 #[.pointer (some ⟨g, 0, none⟩), .int .i64 m1] wr.drew fun e w' => e = .returned (.bool lv) ∧ wr.drew = w') := Lib.hid (by rw [hlv]; exact HLv.out _ _ HBd.out)
      have HLe := Lib.hid hlv
      have HSS : Hid (wr.drew.cell? ⟨g, 578, none⟩ = some (.slice (some ⟨b, 0, none⟩) n ccap) ∧ wr.drew.cell? ⟨b, k * 2, none⟩ = some (.int .i64 m1)) := Lib.hid ⟨cc, c0⟩
      clear hlv
      go_upto_region 5 with fail
      refine wp_region_held_drew (S := fun w' => w'.cell? ⟨g, 578, none⟩ = some (.slice (some ⟨b, 0, none⟩) n ccap) ∧ w'.cell? ⟨b, k * 2, none⟩ = some (.int .i64 m1)) (by kernel_rfl) (HSS.out) (fun hHeld => ?_)
      refine tk 0 hHeld ?_
      refine tk 1 hHeld ?_
      refine tk 2 hHeld ?_
      refine tk 3 hHeld ?_
      refine tk 4 hHeld ?_
      refine tk 5 hHeld ?_
      refine tk 6 hHeld ?_
      refine tk 7 hHeld ?_
      refine tk 8 hHeld ?_
      refine tk 9 hHeld ?_
      refine tk 10 hHeld ?_
      refine rd 11 (fun K hK => ?_)
      go_simp
      go_at_call 76
      refine (HLm.out).mono ?_
      rintro e w2 ⟨rfl, rfl⟩
      go_wp2_with fail
      refine hK.out _ _ (HSS.out) (fun hHeld => ?_)
      clear hK K
      refine tk 12 hHeld ?_
      refine wpAnyH_done (by kernel_rfl) ?_ _
      clear hHeld HLm
      refine fin (fun W => OwnD W w.heap.size u5 nq Q ∧ Below w.heap.size w W ∧ W.cell? ⟨g, 578, none⟩ = some (.slice (some ⟨b, 0, none⟩) n ccap) ∧ W.cell? ⟨b, k * 2, none⟩ = some (.int .i64 m1) ∧ W.cell? ⟨b, k * 2 + 1, none⟩ = some (.int .i64 m2) ∧ g < W.heap.size ∧ b < W.heap.size) (W := wr.drew) ⟨HOwn.out, HBd.out, cc, c0, c1, hg, hbl⟩ ?_
      clear HOwn HB HBd cc c0 c1 hg hbl HSS hsz
      rintro W1 ⟨ho, hb, cc, c0, c1, hg, hbl⟩
      have HO1 := Lib.hid ho
      have HB1 := Lib.hid hb
      have hs1 := hb.size
      clear ho hb
      cases lv with
      | false =>
        have HP : Hid (pickM (fun x => liveS S x.1 && decide (since < x.2)) (S.ch.take (k + 1)) = pickM (fun x => liveS S x.1 && decide (since < x.2)) (S.ch.take k)) := Lib.hid (pickM_no (p := (fun x => liveS S x.1 && decide (since < x.2))) HM.out (by show (liveS S m1 && decide (since < m2)) = false; rw [← HLe.out]; rfl))
        go_wp2
        go_roundw
        case rel => exact ⟨k + 1, by omega, by go_num, by rw [HP.out, ← HQ.out, ← HNq.out]; exact HO1.out, HB1.out⟩
        case measure => simp [intOf] <;> omega
      | true =>
        by_cases hs : since < m2
        · have HP : Hid (pickM (fun x => liveS S x.1 && decide (since < x.2)) (S.ch.take (k + 1)) = pickM (fun x => liveS S x.1 && decide (since < x.2)) (S.ch.take k) ++ [m1]) := Lib.hid (pickM_yes (p := (fun x => liveS S x.1 && decide (since < x.2))) HM.out (by show (liveS S m1 && decide (since < m2)) = true; rw [← HLe.out]; simpa using hs))
          go_wp2_with (at_builtin; refine wpList_append_own _ rfl (.tmp 42) (.tmp 51) 53 rfl w.heap.size 31 i0 (.int .i64 0) 1 8 Tryz.underlying53 HI.out.1 HI.out.2.1 HI.out.2.2.1 HI.out.2.2.2 rfl (by decide) _ _ _ rfl (HO1.out.alloc _) ⟨W1.heap.size, 0, none⟩ 1 1 [.int .i64 m1] rfl rfl (cell_one_new _ _ _) (by intro u hu; simp at hu; subst hu; rfl) (by unfold maxLen; omega) (by omega) (by simp; omega) ?_)
          intro v' w2 hown' hgrow _
          have HO2 := Lib.hid hown'
          have HB2 := Lib.hid (grownD_below HO1.out (Nat.le_refl _) HB1.out hs1 hgrow)
          clear hown' hgrow
          go_wp2
          go_roundw
          case rel =>
            refine ⟨k + 1, by omega, by go_num, ?_, HB2.out⟩
            have el : (pickM (fun x => liveS S x.1 && decide (since < x.2)) (S.ch.take (k + 1))).length = nq + 1 := by rw [HP.out, ← HQ.out, List.length_append, ← HNq.out]; rfl
            rw [el]
            unfold OwnD
            rw [HP.out, ← HQ.out, List.map_append]
            exact HO2.out
          case measure => simp [intOf] <;> omega
        · have HP : Hid (pickM (fun x => liveS S x.1 && decide (since < x.2)) (S.ch.take (k + 1)) = pickM (fun x => liveS S x.1 && decide (since < x.2)) (S.ch.take k)) := Lib.hid (pickM_no (p := (fun x => liveS S x.1 && decide (since < x.2))) HM.out (by show (liveS S m1 && decide (since < m2)) = false; rw [← HLe.out]; simpa using hs))
          go_wp2
          go_roundw
          case rel => exact ⟨k + 1, by omega, by go_num, by rw [HP.out, ← HQ.out, ← HNq.out]; exact HO1.out, HB1.out⟩
          case measure => simp [intOf] <;> omega
    · obtain rfl : k = n := by omega
      rw [List.take_of_length_le (by rw [← HN.out]; exact Nat.le_refl _)] at HOwn
      have hpl := pickM_len (fun x => liveS S x.1 && decide (since < x.2)) S.ch S.ch.length
      rw [List.take_length, ← HN.out] at hpl
      obtain ⟨Q, hQ⟩ : ∃ Q, Q = pickM (fun x => liveS S x.1 && decide (since < x.2)) S.ch := ⟨_, rfl⟩
      rw [← hQ] at HOwn hpl HRs
      obtain ⟨qa, qcap, hqv, hqr⟩ := HOwn.out.row
      subst hqv
      obtain ⟨nq, hnq⟩ : ∃ nq, nq = Q.length := ⟨_, rfl⟩
      rw [← hnq] at hqr hpl ⊢
      have HQr := Lib.hid hqr
      have k2 : ¬ (k : Int) < (k : Int) := by omega
      clear hcol hqr hQ hnq HOwn
      go_wp2_with fail
      refine (rsorted_any qa nq qcap Q wr HQr.out (by omega)).mono ?_
      rintro e w2 ⟨v, rfl, lr, b2⟩
      have HLr := Lib.hid (LRes.mono lr hsz)
      replace HB := Lib.hid (bthen HB.out b2)
      obtain ⟨va, vcap, hvv, _, _⟩ := lr
      clear b2
      subst hvv
      go_wp2
      go_ret
      exact ⟨_, rfl, by rw [HRs.out]; exact HLr.out, HB.out⟩

theorem RS.gone8 {w W Wb w1 : World} {g gu n cap : Nat} {F : Nat → Prop} {S : St} {tv : Nat → Value} {cv gv : Value} {l : List (Int × Int)} (h : RS W g S tv cv gv) (hf : Fr w W F) (hn : ∀ b, foot8 g tv cv gv b → F b ∨ w.heap.size ≤ b) (hb : Below W.heap.size W Wb) (hg : Wb.grownBy w1 gv.ownBlock) (hc : ColM w1 (.slice (some ⟨gu, 0, none⟩) n cap) l) (hu : gv.ownBlock = some gu ∨ Wb.heap.size ≤ gu) :
    RS (w1.setCell ⟨g, 579, none⟩ (.slice (some ⟨gu, 0, none⟩) n cap)) g { S with go := l } tv cv (.slice (some ⟨gu, 0, none⟩) n cap) ∧ Fr w (w1.setCell ⟨g, 579, none⟩ (.slice (some ⟨gu, 0, none⟩) n cap)) F ∧ ∀ b, foot8 g tv cv (.slice (some ⟨gu, 0, none⟩) n cap) b → F b ∨ w.heap.size ≤ b := by
  have hgl := h.row.lt
  have k := h.keep hb
  have hne : ∀ b, (gv.ownBlock = some b → False) → b < Wb.heap.size → w1.heap[b]? = Wb.heap[b]? := fun b c hl => hg.block b hl (fun e => c e.symm)
  have hst : ∀ b, b ≠ g → (w1.setCell ⟨g, 579, none⟩ (.slice (some ⟨gu, 0, none⟩) n cap)).heap[b]? = w1.heap[b]? := fun b c => by
    simp only [World.setCell, Array.getElem?_modify]
    rw [if_neg (fun e => c e.symm)]
  have hgug : gu ≠ g := fun e => by
    rcases hu with c | c
    · exact h.offG (e ▸ c)
    · have := hb.size; omega
  have hT : ∀ i, i < 32 → ∀ b, (tv i).ownBlock = some b → (w1.setCell ⟨g, 579, none⟩ (.slice (some ⟨gu, 0, none⟩) n cap)).heap[b]? = Wb.heap[b]? := fun i hi b e => by
    rw [hst b (fun c => h.offT i hi (c ▸ e))]
    exact hne b (fun c => h.sepT i hi b c e) (World.ownsRow.lt (k.tab i hi) b e).2
  have hCb : ∀ b, cv.ownBlock = some b → (w1.setCell ⟨g, 579, none⟩ (.slice (some ⟨gu, 0, none⟩) n cap)).heap[b]? = Wb.heap[b]? := fun b e => by
    rw [hst b (fun c => h.offC (c ▸ e))]
    exact hne b (fun c => h.sepC b c e) (World.ownsRow.lt k.chs b e).2
  have row1 : w1.rowIs g 96 580 (sF S tv cv gv) := k.row.of_block (hne g (fun c => h.offG c) k.row.lt)
  refine ⟨⟨(row1.set 579 _).congr (fun j hj => upv_go _ j hj), fun i hi => ColX.same (k.tab i hi) (hT i hi), ColX.same k.chs hCb, ColX.same hc (fun b e => hst b (fun c => ?_)), h.offT, h.offC, fun e => ?_, fun i hi b e c => ?_, fun b e c => ?_⟩, ?_, ?_⟩
  · have : gu = b := by simpa [Value.ownBlock] using e
    omega
  · have : gu = g := by simpa [Value.ownBlock] using e
    exact hgug this
  · have e' : gu = b := by simpa [Value.ownBlock] using e
    rcases hu with d | d
    · exact h.sepT i hi b (e' ▸ d) c
    · have := (World.ownsRow.lt (h.tab i hi) b c).2
      have := hb.size
      omega
  · have e' : gu = b := by simpa [Value.ownBlock] using e
    rcases hu with d | d
    · exact h.sepC b (e' ▸ d) c
    · have := (World.ownsRow.lt h.chs b c).2
      have := hb.size
      omega
  · have hgF : F g ∨ w.heap.size ≤ g := hn g (Or.inl rfl)
    refine ⟨hg.os.trans (hb.os.trans hf.1), hg.tape.trans (hb.tape.trans hf.2.1), hg.output.trans (hb.output.trans hf.2.2.1), Nat.le_trans (Nat.le_trans hf.2.2.2.1 hb.size) (by simpa [World.setCell] using hg.size), fun b hl hnf => ?_⟩
    have hbl : b < W.heap.size := Nat.lt_of_lt_of_le hl hf.2.2.2.1
    rw [hst b (fun c => hgF.elim (fun d => hnf (c ▸ d)) (fun d => by omega)), hne b (fun c => (hn b (Or.inr (Or.inr (Or.inr c)))).elim hnf (fun d => by omega)) (Nat.lt_of_lt_of_le hbl hb.size), hb.block b hbl]
    exact hf.2.2.2.2 b hl hnf
  · rintro b (rfl | e | e | e)
    · exact hn _ (Or.inl rfl)
    · exact hn b (Or.inr (Or.inl e))
    · exact hn b (Or.inr (Or.inr (Or.inl e)))
    · have e' : gu = b := by simpa [Value.ownBlock] using e
      rcases hu with d | d
      · exact hn b (Or.inr (Or.inr (Or.inr (e' ▸ d))))
      · have := hb.size
        have := hf.2.2.2.1
        exact Or.inr (by omega)
theorem bs_mark (x y : Int) (W : World) : (Instr.buildSlice 94 1 #[(0, .agg #[.int .i64 x, .int .i64 y])]).run Tryz.prog W = .ok (.slice (some ⟨W.heap.size, 0, none⟩) 1 1) (W.alloc (.cells ([.int .i64 x, .int .i64 y] : List Value).toArray 135)) := by kernel_rfl

set_option maxHeartbeats 8000000 in
set_option maxRecDepth 100000 in
theorem rdespawn8_any {w : World} {g : Nat} {F : Nat → Prop} {S : St} (h0 : RB w g F S) (hW : WS S) (hB : Bd S 1000) (id : Int) :
    Calls Tryz.prog 66 #[.pointer (some ⟨g, 0, none⟩), .int .i64 id] w fun e w' => e = .returned (.int .i64 (deE S id)) ∧ Chg RB w w' g F (deS S id) := by
  have HRB := Lib.hid h0
  obtain ⟨tv, cv, gv, h, hF⟩ := h0
  have hg := h.row.lt
  have HAt : Hid (Calls Tryz.prog 78 #[.pointer (some ⟨g, 0, none⟩), .int .i64 id] w fun e w' => e = .returned (.tuple #[.int .i64 (atI S id), .int .i64 (atR S id)]) ∧ w = w') := Lib.hid (rat_any h hB.2.2.1 id)
  cases ha : atS S id with
  | none =>
    have e1 : atI S id = -1 := by unfold atI; rw [ha]
    have e2 : atR S id = -1 := by unfold atR; rw [ha]
    have e3 : getB S id = false := by unfold getB; rw [ha]; rfl
    have e4 : Hid (deE S id = 4) := Lib.hid (by unfold deE; rw [e3]; rfl)
    have e5 : Hid (deS S id = S) := Lib.hid (by unfold deS; rw [ha])
    rw [e1, e2] at HAt
    clear e1 e2 e3 ha h hF hW hB
    go_enter Tryz.func66, Tryz.ntmps66
    go_wp2_with fail
    refine HAt.out.mono ?_
    rintro e w1 ⟨rfl, rfl⟩
    go_wp2
    go_ret
    exact ⟨by rw [e4.out]; rfl, by rw [e5.out]; exact Chg.still HRB.out (Below.refl _ _)⟩
  | some i =>
    obtain ⟨i32, hhi⟩ := at_some ha
    obtain ⟨row, hrow⟩ : ∃ row, row = findI (S.T i) id := ⟨_, rfl⟩
    have e1 : atI S id = (i : Int) := by unfold atI; rw [ha]
    have e2 : atR S id = row := by unfold atR; rw [ha, hrow]
    have e3 : getB S id = true := by unfold getB; rw [ha]; rfl
    have e4 : Hid (deE S id = 0) := Lib.hid (by unfold deE; rw [e3]; rfl)
    have e5 : Hid (deS S id = { S with T := upf S.T i (tcuR (S.T i) row), G := drG S.G S.L id, L := drL S.G S.L id, go := S.go ++ [(id, S.now)] }) := Lib.hid (by unfold deS; rw [ha, hrow])
    rw [e1, e2] at HAt
    have HCu : Hid (Calls Tryz.prog 104 #[.pointer (some ⟨g, 513 + i * 2, none⟩), .int .i64 row] w fun e w' => (∃ z1 z2, e = .returned (.tuple #[.int .i64 z1, .int .i64 z2])) ∧ TU w w' g (513 + i * 2) 96 580 (sF S tv cv gv) (tcuR (S.T i) row)) := Lib.hid ((rcut_any (h.view i32 (hB.2.2.1 i i32)) row).mono fun _ _ q => ⟨⟨_, _, q.1⟩, q.2⟩)
    have HH := Lib.hid h
    have HFF := Lib.hid hF
    have HPO := Lib.hid hW.ok
    have hgl := hB.2.1
    have i0 : (0 : Int) ≤ (i : Int) := by omega
    have i1 : (i : Int) < 32 := by omega
    clear e1 e2 e3 ha h hF hW hB hhi hrow
    go_enter Tryz.func66, Tryz.ntmps66
    go_wp2_with fail
    refine HAt.out.mono ?_
    rintro e w1 ⟨rfl, rfl⟩
    go_wp2_with fail
    refine HCu.out.mono ?_
    rintro e w2 ⟨⟨z1, z2, rfl⟩, tu⟩
    obtain ⟨tv2, rs2, fr2, new2⟩ := HH.out.next (F := F) ⟨rfl, rfl, rfl, Nat.le_refl _, fun _ _ _ => rfl⟩ (fun b hb => Or.inl ((HFF.out b).2 hb)) i32 tu
    have HR2 := Lib.hid rs2
    have HF2 := Lib.hid (And.intro fr2 new2)
    have hg2 : g < w2.heap.size := rs2.row.lt
    clear tu rs2 fr2 new2 HCu
    have HDr : Hid (Calls Tryz.prog 105 #[.pointer (some ⟨g, 0, none⟩), .int .i64 id] w2 fun e w' => (∃ z, e = .returned (.bool z)) ∧ w'.rowIs g 96 580 (poolX (stE tv2 S.now cv gv) S.room (drG S.G S.L id) (drL S.G S.L id)) ∧ w2.grownBy w' (some g)) := Lib.hid ((pdrop8 (E := stE tv2 S.now cv gv) (t := 96) (N := 580) (by omega) g S.room S.G S.L id w2 HPO.out.gen HR2.out.row).mono fun _ _ q => ⟨⟨_, q.1⟩, q.2⟩)
    go_wp2_with fail
    refine HDr.out.mono ?_
    rintro e w3 ⟨⟨z3, rfl⟩, hr3, hg3⟩
    have HR3 := Lib.hid (HR2.out.pool hr3 hg3)
    have HF3 : Hid (Fr w w3 F) := Lib.hid (HF2.out.1.two HR3.out.2.1 HF2.out.2)
    clear hr3 hg3 HDr
    obtain ⟨rs3, -, -⟩ := HR3.out
    have HD := Lib.hid rs3.drew
    have c577 : w3.cell? ⟨g, 577, none⟩ = some (.int .i64 S.now) := by rw [rs3.row.cell (by omega)]; rfl
    have c579 : w3.cell? ⟨g, 579, none⟩ = some gv := by rw [rs3.row.cell (by omega)]; rfl
    have hg3 : g < w3.heap.size := rs3.row.lt
    obtain ⟨nw, hnw⟩ : ∃ nw, nw = S.now := ⟨_, rfl⟩
    have HNw := Lib.hid hnw
    rw [← hnw] at c577
    have CW := Lib.hid (And.intro c577 c579)
    have CB : Hid ((w3.drew.alloc (.cells ([.int .i64 id, .int .i64 nw] : List Value).toArray 135)).cell? ⟨g, 579, none⟩ = some gv ∧ (w3.drew.alloc (.cells ([.int .i64 id, .int .i64 nw] : List Value).toArray 135)).cell? ⟨g, 577, none⟩ = some (.int .i64 nw)) := Lib.hid ⟨cell_keep (w := w3.drew) c579 (alloc_below _ _), cell_keep (w := w3.drew) c577 (alloc_below _ _)⟩
    clear rs3 hnw c577 c579
    go_upto_region 6 with fail
    refine wp_region_held_drew (S := fun w' => w'.cell? ⟨g, 577, none⟩ = some (.int .i64 nw)) (by kernel_rfl) (CW.out.1) (fun hHeld => ?_)
    refine tk 0 hHeld ?_
    refine tk 1 hHeld ?_
    refine tk 2 hHeld ?_
    refine tk 3 hHeld ?_
    refine tk 5 hHeld ?_
    refine tk 6 hHeld ?_
    refine tk 7 hHeld ?_
    refine tk 8 hHeld ?_
    refine tk 9 hHeld ?_
    refine tk 10 hHeld ?_
    refine wpAnyH_pair (i := 4) (j := 11) (v := gv) (u := .slice (some ⟨w3.heap.size, 0, none⟩) 1 1) (w' := w3.drew.alloc (.cells ([.int .i64 id, .int .i64 nw] : List Value).toArray 135)) rfl rfl (by kernel_rfl) (by kernel_rfl) (by kernel_rfl) (by rfl) (by rfl) (by rfl) (by rfl) (exec_cell rfl rfl Tryz.underlying94 CW.out.2) (exec_bs rfl rfl (bs_mark id nw _)) (exec_bs rfl rfl (bs_mark id nw _)) (exec_cell rfl rfl Tryz.underlying94 CB.out.1) rfl hHeld CB.out.2 ?_
    simp only [Act.put, List.getElem_toArray, List.getElem_cons_zero, List.getElem_cons_succ, List.setIfInBounds_toArray, List.set_cons_zero, List.set_cons_succ]
    clear hHeld CW CB
    have hmm : (S.go.map mk8).length ≤ 2000 := by rw [List.length_map]; omega
    refine rd 12 (fun K hK => ?_)
    rw [if_pos (by rfl)]
    refine wp_appC (.tmp 31) (.tmp 38) 94 135 2 16 (.agg #[.int .i64 0, .int .i64 0]) cM rfl Tryz.underlying94 minfo rfl (by decide) (by decide) (fun _ => rfl) gv (S.go.map mk8) rfl ((HD.out.keep (alloc_below _ _)).gos) hmm (mk8 (id, nw)) [.int .i64 id, .int .i64 nw] rfl (mone id nw) w3.heap.size (Blk.new _ _ _) rfl ?_
    intro gu gcap w4 hc hgr hat
    have hc' : ColM w4 (.slice (some ⟨gu, 0, none⟩) ((S.go.map mk8).length + 1) gcap) (S.go ++ [(id, nw)]) := by
      show ColX w4 _ 2 cM _ ((S.go ++ [(id, nw)]).map mk8)
      rw [List.map_append]; exact hc
    generalize (S.go.map mk8).length + 1 = nn at hc' ⊢
    have HG := Lib.hid (HD.out.gone8 (F := F) HF3.out.drew HF2.out.2 (alloc_below _ _) hgr hc' hat)
    have HK : Hid (RS w4 g { S with T := upf S.T i (tcuR (S.T i) row), G := drG S.G S.L id, L := drL S.G S.L id } tv2 cv gv → True) := Lib.hid (fun _ => trivial)
    have hrow4 : w4.rowIs g 96 580 (sF { S with T := upf S.T i (tcuR (S.T i) row), G := drG S.G S.L id, L := drL S.G S.L id } tv2 cv gv) := (HD.out.keep (alloc_below _ _)).row.of_block (hgr.block g (by rw [World.size_alloc]; exact Nat.lt_succ_of_lt hg3) (fun e => HD.out.offG e.symm))
    have c4 : w4.cell? ⟨g, 577, none⟩ = some (.int .i64 nw) := by rw [hrow4.cell (by omega), HNw.out]; rfl
    have d4 : w4.cell? ⟨g, 579, none⟩ = some gv := by rw [hrow4.cell (by omega)]; rfl
    have f4 : w4.frozen? ⟨g, 579, none⟩ = false := hrow4.frozen _
    have hg4 : g < w4.heap.size := hrow4.lt
    clear hc hc' hgr hat HK hrow4
    refine hK.out _ _ c4 (fun hHeld => ?_)
    clear hK K
    simp only [Act.put, List.getElem_toArray, List.getElem_cons_zero, List.getElem_cons_succ, List.setIfInBounds_toArray, List.set_cons_zero, List.set_cons_succ]
    refine tk 13 hHeld ?_
    refine tk 14 hHeld ?_
    have c5 : (w4.setCell ⟨g, 579, none⟩ (.slice (some ⟨gu, 0, none⟩) nn gcap)).cell? ⟨g, 577, none⟩ = some (.int .i64 nw) := by rw [HG.out.1.row.cell (by omega), HNw.out]; rfl
    refine rd 15 (fun K hK => ?_)
    go_simp
    refine hK.out _ _ c5 (fun hHeld => ?_)
    clear hK K
    refine wpAnyH_done (by kernel_rfl) ?_ _
    clear hHeld
    refine fin (fun W => Chg RB w W g F (deS S id)) ?_ ?_
    · have h6 := HG.out
      rw [HNw.out] at h6
      rw [e5.out]
      exact ⟨_, ⟨_, _, _, h6.1, fun _ => Iff.rfl⟩, h6.2.1, h6.2.2⟩
    clear HG c4 c5 d4 f4 hg4
    rintro W hch
    have HCh := Lib.hid hch
    clear hch
    go_wp2
    go_ret
    exact ⟨by rw [e4.out]; rfl, HCh.out⟩

end Go.Proofs.YtkondkajpmafkaaGreat
