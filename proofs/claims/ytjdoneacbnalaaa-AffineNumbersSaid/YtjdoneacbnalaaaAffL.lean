/-
  What the reference's Mul of layer 3 answers.
-/
import Derived.Test.YtjdoneacbnalaaaAffK
namespace Go.Proofs.Ytjdoneacbnalaaa
open Go.RowKit

set_option maxHeartbeats 1000000 in
theorem rmul_no (a : Option Addr) (len cap : Nat) (Ms : List (Nat → Int)) (w : World) (row : MRow w a len Ms) (h : rightM Ms = false) :
    Calls Try.prog 9 #[.slice a len cap] w fun e w' => e = .returned (.tuple #[.agg #[.int .i64 0, .int .i64 0, .int .i64 0, .int .i64 0, .int .i64 0, .int .i64 0, .int .i64 0, .int .i64 0, .int .i64 0, .int .i64 0, .int .i64 0, .int .i64 0], .int .i64 1]) ∧ Below w.heap.size w w' := by
  have HL := Lib.hid row.1
  have hbig := row.2.1
  have HRow := Lib.hid row
  have HO := Lib.hid h
  clear row h
  go_enter Try.func9, Try.ntmps9
  go_wp2
  go_loopw [4] (fun i wr => ∃ k : Nat, k ≤ len ∧ i = .int .i64 k ∧ rightM (Ms.take k) = true ∧ Blk wr w.heap.size 25 #[.int .i64 0, .int .i64 0, .int .i64 0, .int .i64 0, .int .i64 0, .int .i64 0, .int .i64 0, .int .i64 0, .int .i64 0, .int .i64 0, .int .i64 0, .int .i64 0] ∧ Below w.heap.size w wr) (fun i _ => len - (intOf i).toNat)
  case atStart => exact ⟨0, by omega, rfl, rfl, Blk.new w _ _, alloc_below _ _⟩
  case round =>
    obtain ⟨k, hk, rfl, hr, hres, hb⟩ := hrel
    have HR := Lib.hid hr
    have HRes := Lib.hid hres
    have HB := Lib.hid hb
    clear hr hres hb
    by_cases hlt : k < len
    · obtain ⟨b, off, M, rfl, hv, m0, m1, m2, m3, m4, m5, m6, m7, m8, m9, m10, m11⟩ := (mrow_keep HRow.out HB.out).at_ hlt
      have HV := Lib.hid hv
      clear hv
      by_cases ho : okM M = true
      · have HK := Lib.hid ho
        clear ho
        go_wp2_with fail
        refine (rmright_b HK.out _).mono ?_
        rintro e w1 ⟨rfl, b1⟩
        have HRes2 := Lib.hid (HRes.out.keep b1)
        have HB2 := Lib.hid (bthen HB.out b1)
        clear b1 m0 m1 m2 m3 m4 m5 m6 m7 m8 m9 m10 m11
        go_wp2
        go_roundw
        case rel => exact ⟨k + 1, by omega, by go_num, rightM_succ HV.out HR.out HK.out, HRes2.out, HB2.out⟩
        case measure => simp [intOf] <;> omega
      · have ho' : okM M = false := by simpa using ho
        have HK := Lib.hid ho'
        clear ho ho'
        go_wp2_with fail
        refine (rmright_b HK.out _).mono ?_
        rintro e w1 ⟨rfl, b1⟩
        have HRes2 := Lib.hid (HRes.out.keep b1)
        have HB2 := Lib.hid (bthen HB.out b1)
        clear b1 m0 m1 m2 m3 m4 m5 m6 m7 m8 m9 m10 m11
        obtain ⟨c0, c1, c2, c3, c4, c5, c6, c7, c8, c9, c10, c11, f0, f1, f2, f3, f4, f5, f6, f7, f8, f9, f10, f11⟩ := blk12 HRes2.out
        go_wp2
        exact bodyPost_ret (v := .tuple #[.agg #[.int .i64 0, .int .i64 0, .int .i64 0, .int .i64 0, .int .i64 0, .int .i64 0, .int .i64 0, .int .i64 0, .int .i64 0, .int .i64 0, .int .i64 0, .int .i64 0], .int .i64 1]) (by simp [results, Try.results9, go_sem, c0, c1, c2, c3, c4, c5, c6, c7, c8, c9, c10, c11]) rfl ⟨rfl, bset12 HB2.out (by omega)⟩
    · exfalso
      have := rightM_all HR.out (by rw [HL.out]; omega)
      rw [HO.out] at this
      cases this

set_option maxHeartbeats 1000000 in
theorem rmul_none (a : Option Addr) (cap : Nat) (w : World) :
    Calls Try.prog 9 #[.slice a 0 cap] w fun e w' => e = .returned (.tuple #[.agg #[.int .i64 65536, .int .i64 0, .int .i64 0, .int .i64 0, .int .i64 0, .int .i64 65536, .int .i64 0, .int .i64 0, .int .i64 0, .int .i64 0, .int .i64 65536, .int .i64 0], .int .i64 0]) ∧ Below w.heap.size w w' := by
  go_enter Try.func9, Try.ntmps9
  go_wp2
  refine wp_loop_rounds 1 ?_
  rw [rounds_succ]
  go_wp2_with fail
  refine (rsame_any _).mono ?_
  rintro e w2 ⟨rfl, b2⟩
  have KR := Lib.hid ((Blk.new w 25 _).keep b2)
  have B1 := Lib.hid (bthen (alloc_below _ _) b2)
  clear b2
  obtain ⟨c0, c1, c2, c3, c4, c5, c6, c7, c8, c9, c10, c11, f0, f1, f2, f3, f4, f5, f6, f7, f8, f9, f10, f11⟩ := blk12 KR.out
  go_wp2
  exact bodyPost_ret (v := .tuple #[.agg #[.int .i64 65536, .int .i64 0, .int .i64 0, .int .i64 0, .int .i64 0, .int .i64 65536, .int .i64 0, .int .i64 0, .int .i64 0, .int .i64 0, .int .i64 65536, .int .i64 0], .int .i64 0]) (by simp [results, Try.results9, go_sem, c0, c1, c2, c3, c4, c5, c6, c7, c8, c9, c10, c11]) rfl ⟨rfl, bset12 B1.out (by omega)⟩

/-- a product that may be may be -/
theorem addV_ok (zs : List Int) : okB (addV zs) = true := by
  unfold addV
  by_cases h : addOk zs = true
  · rw [if_pos h]
    unfold fitV
    by_cases h' : okB zs.sum = true
    · rw [if_pos h']; exact h'
    · rw [if_neg h']; decide
  · rw [if_neg h]; decide
theorem alV_ok (M : Nat → Int) (r : Nat) (V : Nat → Int) (l : Int) : okB (alV M r V l) = true := by
  unfold alV
  by_cases h : alF M r V = 0
  · rw [if_pos h]; exact addV_ok _
  · rw [if_neg h]; decide
theorem prodM_ok (A B : Nat → Int) : okM (prodM A B) = true := okM_of fun k _ => by
  unfold prodM gate
  by_cases h : prodE2 A B = 0
  · rw [if_pos h]; exact alV_ok _ _ _ _
  · rw [if_neg h]; decide
theorem rightM_at {Ms : List (Nat → Int)} {k : Nat} {M : Nat → Int} (hr : rightM Ms = true) (h : Ms[k]? = some M) : okM M = true := by
  unfold rightM at hr
  rw [List.all_eq_true] at hr
  exact hr M (List.mem_of_getElem? h)

theorem MRow.range {w : World} {a : Option Addr} {len k : Nat} {Ms : List (Nat → Int)} (h : MRow w a len Ms) (hk : k < len) :
    ∃ b off M, a = some ⟨b, off, none⟩ ∧ Ms[k]? = some M ∧ w.rangeAt b (off + k * 12) [.int .i64 (M 0), .int .i64 (M 1), .int .i64 (M 2), .int .i64 (M 3), .int .i64 (M 4), .int .i64 (M 5), .int .i64 (M 6), .int .i64 (M 7), .int .i64 (M 8), .int .i64 (M 9), .int .i64 (M 10), .int .i64 (M 11)] := by
  obtain ⟨h1, h2, h3⟩ := h
  rcases h3 with h3 | ⟨b, off, rfl, hc⟩
  · omega
  · have hk' : k < Ms.length := by omega
    have e : Ms.getD k zeroM = Ms[k] := by simp [List.getD, List.getElem?_eq_getElem hk']
    have c := hc k hk
    rw [e] at c
    refine ⟨b, off, _, rfl, List.getElem?_eq_getElem hk', fun j v hv => ?_⟩
    have hj : j < 12 := by have := (List.getElem?_eq_some_iff.1 hv).1; simpa using this
    rw [c j hj]
    rcases lt12 hj with rfl | rfl | rfl | rfl | rfl | rfl | rfl | rfl | rfl | rfl | rfl | rfl <;> simpa using hv
theorem range_keep {w w' : World} {b o : Nat} {cs : List Value} (h : w.rangeAt b o cs) (hb : Below w.heap.size w w') : w'.rangeAt b o cs := fun j v hv => cell_keep (h j v hv) hb
theorem range_drew {w : World} {b o : Nat} {cs : List Value} (h : w.rangeAt b o cs) : w.drew.rangeAt b o cs := fun j v hv => h j v hv

theorem range_far {w : World} {b o g i : Nat} {cs : List Value} {u : Value} (h : w.rangeAt b o cs) (hne : b ≠ g) : (w.setCell ⟨g, i, none⟩ u).rangeAt b o cs := fun j v hv => by
  rw [World.cell?_setCell_far _ _ _ _ (Ne.symm hne)]
  exact h j v hv
theorem range_far12 {w : World} {b o g : Nat} {cs : List Value} {u0 u1 u2 u3 u4 u5 u6 u7 u8 u9 u10 u11 : Value} (h : w.rangeAt b o cs) (hne : b ≠ g) : ((((((((((((w.setCell ⟨g, 0, none⟩ u0).setCell ⟨g, 1, none⟩ u1).setCell ⟨g, 2, none⟩ u2).setCell ⟨g, 3, none⟩ u3).setCell ⟨g, 4, none⟩ u4).setCell ⟨g, 5, none⟩ u5).setCell ⟨g, 6, none⟩ u6).setCell ⟨g, 7, none⟩ u7).setCell ⟨g, 8, none⟩ u8).setCell ⟨g, 9, none⟩ u9).setCell ⟨g, 10, none⟩ u10).setCell ⟨g, 11, none⟩ u11).rangeAt b o cs :=
  range_far (range_far (range_far (range_far (range_far (range_far (range_far (range_far (range_far (range_far (range_far (range_far h hne) hne) hne) hne) hne) hne) hne) hne) hne) hne) hne) hne

set_option maxHeartbeats 4000000 in
theorem rmul_some (b off n cap : Nat) (M : Nat → Int) (Ms : List (Nat → Int)) (w : World) (row : MRow w (some ⟨b, off, none⟩) (n + 1) (M :: Ms)) (h : rightM (M :: Ms) = true) :
    Calls Try.prog 9 #[.slice (some ⟨b, off, none⟩) (n + 1) cap] w fun e w' => e = .returned (.tuple #[.agg #[.int .i64 ((foldM M Ms).1 0), .int .i64 ((foldM M Ms).1 1), .int .i64 ((foldM M Ms).1 2), .int .i64 ((foldM M Ms).1 3), .int .i64 ((foldM M Ms).1 4), .int .i64 ((foldM M Ms).1 5), .int .i64 ((foldM M Ms).1 6), .int .i64 ((foldM M Ms).1 7), .int .i64 ((foldM M Ms).1 8), .int .i64 ((foldM M Ms).1 9), .int .i64 ((foldM M Ms).1 10), .int .i64 ((foldM M Ms).1 11)], .int .i64 (foldM M Ms).2]) ∧ Below w.heap.size w w' := by
  have HL := Lib.hid row.1
  have hbig := row.2.1
  have HRow := Lib.hid row
  have HO := Lib.hid h
  clear row h
  go_enter Try.func9, Try.ntmps9
  go_wp2
  go_loopw [4] (fun i wr => ∃ k : Nat, k ≤ n + 1 ∧ i = .int .i64 k ∧ Blk wr w.heap.size 25 #[.int .i64 0, .int .i64 0, .int .i64 0, .int .i64 0, .int .i64 0, .int .i64 0, .int .i64 0, .int .i64 0, .int .i64 0, .int .i64 0, .int .i64 0, .int .i64 0] ∧ Below w.heap.size w wr) (fun i _ => n + 1 - (intOf i).toNat)
  case atStart => exact ⟨0, by omega, rfl, Blk.new w _ _, alloc_below _ _⟩
  case round =>
    obtain ⟨k, hk, rfl, hres, hb⟩ := hrel
    have HRes := Lib.hid hres
    have HB := Lib.hid hb
    clear hres hb
    by_cases hlt : k < n + 1
    · obtain ⟨b', off', N, e, hv, m0, m1, m2, m3, m4, m5, m6, m7, m8, m9, m10, m11⟩ := (mrow_keep HRow.out HB.out).at_ hlt
      simp at e
      obtain ⟨rfl, rfl⟩ := e
      have HK := Lib.hid (rightM_at HO.out hv)
      clear hv
      go_wp2_with fail
      refine (rmright_b HK.out _).mono ?_
      rintro e w1 ⟨rfl, b1⟩
      have HRes2 := Lib.hid (HRes.out.keep b1)
      have HB2 := Lib.hid (bthen HB.out b1)
      clear b1 m0 m1 m2 m3 m4 m5 m6 m7 m8 m9 m10 m11
      go_wp2
      go_roundw
      case rel => exact ⟨k + 1, by omega, by go_num, HRes2.out, HB2.out⟩
      case measure => simp [intOf] <;> omega
    · obtain rfl : k = n + 1 := by omega
      obtain ⟨w1, hw1⟩ : ∃ w1, w1 = wr := ⟨_, rfl⟩
      subst hw1
      obtain ⟨m0, m1, m2, m3, m4, m5, m6, m7, m8, m9, m10, m11⟩ := (mrow_keep HRow.out HB.out).head
      go_wp2
      go_loopw [7, 8] (fun i _ wi => ∃ k : Nat, ∃ P : Nat → Int, 1 ≤ k ∧ k ≤ n + 1 ∧ i = .int .i64 k ∧ foldM M Ms = foldM P ((M :: Ms).drop k) ∧ okM P = true ∧ BM wi w1.heap.size P ∧ Blk wi w.heap.size 25 #[.int .i64 0, .int .i64 0, .int .i64 0, .int .i64 0, .int .i64 0, .int .i64 0, .int .i64 0, .int .i64 0, .int .i64 0, .int .i64 0, .int .i64 0, .int .i64 0] ∧ Below w.heap.size w wi) (fun i _ _ => n + 1 - (intOf i).toNat)
      case atStart => exact ⟨1, M, by omega, by omega, rfl, rfl, rightM_at (k := 0) HO.out rfl, Blk.new w1 _ _, HRes.out.alloc _, balloc HB.out _⟩
      case round =>
        have hne : w.heap.size < w1.heap.size := HRes.out.lt
        have hle : w.heap.size ≤ w1.heap.size := HB.out.size
        clear HRes HB m0 m1 m2 m3 m4 m5 m6 m7 m8 m9 m10 m11
        obtain ⟨k, P, hk1, hk, rfl, hf, hop, hp, hres, hb⟩ := hrel
        have HF := Lib.hid hf
        have HOP := Lib.hid hop
        have HP := Lib.hid hp
        have HRes := Lib.hid hres
        have HB := Lib.hid hb
        clear hf hop hp hres hb
        by_cases hlt2 : k < n + 1
        · obtain ⟨b', off', N, e, hv, hrg⟩ := (mrow_keep HRow.out HB.out).range hlt2
          simp at e
          obtain ⟨rfl, rfl⟩ := e
          have HK := Lib.hid (rightM_at HO.out hv)
          have HV := Lib.hid hv
          have HRg := Lib.hid hrg
          clear hv hrg
          have hkd : decide ((k : Int) < (n : Int) + 1) = true := by simp; omega
          have hk0 : (0 : Int) ≤ (k : Int) := by omega
          have hk2 : (k : Int) < (n : Int) + 1 := by omega
          have hsA := sizeM P
          have hsB := sizeM N
          have hu := Try.underlying25
          go_wp2
          refine wp_region_held_drew (S := fun w' => w'.rangeAt w1.heap.size 0 [.int .i64 (P 0), .int .i64 (P 1), .int .i64 (P 2), .int .i64 (P 3), .int .i64 (P 4), .int .i64 (P 5), .int .i64 (P 6), .int .i64 (P 7), .int .i64 (P 8), .int .i64 (P 9), .int .i64 (P 10), .int .i64 (P 11)] ∧ w'.rangeAt b (off + k * 12) [.int .i64 (N 0), .int .i64 (N 1), .int .i64 (N 2), .int .i64 (N 3), .int .i64 (N 4), .int .i64 (N 5), .int .i64 (N 6), .int .i64 (N 7), .int .i64 (N 8), .int .i64 (N 9), .int .i64 (N 10), .int .i64 (N 11)]) (by kernel_rfl) (⟨rangeM (Blk.drew HP.out), range_drew HRg.out⟩) (fun hHeld => ?_)
          refine wpAnyH_take (i := 0) (v := _) rfl (by kernel_rfl) (by kernel_rfl) (by kernel_rfl) (fun _ _ _ h => h) (yieldsIf_load_mid (by rfl) _ _ rfl _ _ rfl _ _ (fun _ h => h.1) hu rfl hsA) hHeld ?_
          simp only [Act.put, List.getElem_toArray, List.getElem_cons_zero, List.setIfInBounds_toArray, List.set_cons_zero, List.set_cons_succ]
          refine wpAnyH_take (i := 1) (v := ?_) rfl (by kernel_rfl) (by kernel_rfl) (by kernel_rfl) (fun _ _ _ h => h) (Or.inl ⟨by rfl, ?_⟩) hHeld ?_
          rotate_left
          · intro w hSw
            go_simp
            with_reducible rfl
          simp only [Act.put, List.getElem_toArray, List.getElem_cons_zero, List.getElem_cons_succ, List.setIfInBounds_toArray, List.set_cons_zero, List.set_cons_succ]
          refine wpAnyH_take (i := 2) (v := ?_) rfl (by kernel_rfl) (by kernel_rfl) (by kernel_rfl) (fun _ _ _ h => h) (Or.inl ⟨by rfl, ?_⟩) hHeld ?_
          rotate_left
          · intro w hSw
            go_simp
            with_reducible rfl
          simp only [Act.put, List.getElem_toArray, List.getElem_cons_zero, List.getElem_cons_succ, List.setIfInBounds_toArray, List.set_cons_zero, List.set_cons_succ]
          refine wpAnyH_take (i := 3) (v := ?_) rfl (by kernel_rfl) (by kernel_rfl) (by kernel_rfl) (fun _ _ _ h => h) (Or.inl ⟨by rfl, ?_⟩) hHeld ?_
          rotate_left
          · intro w hSw
            go_simp
            with_reducible rfl
          simp only [Act.put, List.getElem_toArray, List.getElem_cons_zero, List.getElem_cons_succ, List.setIfInBounds_toArray, List.set_cons_zero, List.set_cons_succ]
          refine wpAnyH_take (i := 4) (v := _) rfl (by kernel_rfl) (by kernel_rfl) (by kernel_rfl) (fun _ _ _ h => h) (yieldsIf_load_mid (by rfl) _ _ rfl _ _ rfl _ _ (fun _ h => h.2) hu rfl hsB) hHeld ?_
          simp only [Act.put, List.getElem_toArray, List.getElem_cons_zero, List.getElem_cons_succ, List.setIfInBounds_toArray, List.set_cons_zero, List.set_cons_succ]
          refine wpAnyH_ready (rs := [5, 9]) (by kernel_rfl) (by simp) ?_
          refine AllReadyH.cons rfl (fun K hK => ?_) (AllReadyH.cons rfl (fun K hK => ?_) AllReadyH.nil)
          · go_simp
            go_at_call 25
            refine (rtwo_yes P N _ HOP.out HK.out).mono ?_
            rintro e w2 ⟨rfl, b2⟩
            go_wp2_with fail
            refine hK.out _ _ ⟨rangeM (Blk.keep HP.out (bdrew b2)), range_keep HRg.out (bdrew b2)⟩ (fun hHeld => ?_)
            clear hK K
            have HP2 := Lib.hid (Blk.keep HP.out (bdrew b2))
            have HRes2 := Lib.hid (HRes.out.keep (bdrew b2))
            have HB2 := Lib.hid (bthen HB.out (bdrew b2))
            have HRg2 := Lib.hid (range_keep HRg.out (bdrew b2))
            clear b2 HP HRes HB HRg
            refine wpAnyH_take (i := 6) (v := ?_) rfl (by kernel_rfl) (by kernel_rfl) (by kernel_rfl) (fun _ _ _ h => h) (Or.inl ⟨by rfl, ?_⟩) hHeld ?_
            rotate_left
            · intro w hSw
              go_simp
              with_reducible rfl
            simp only [Act.put, List.getElem_toArray, List.getElem_cons_zero, List.getElem_cons_succ, List.setIfInBounds_toArray, List.set_cons_zero, List.set_cons_succ]
            refine wpAnyH_take (i := 7) (v := ?_) rfl (by kernel_rfl) (by kernel_rfl) (by kernel_rfl) (fun _ _ _ h => h) (Or.inl ⟨by rfl, ?_⟩) hHeld ?_
            rotate_left
            · intro w hSw
              go_simp
              with_reducible rfl
            simp only [Act.put, List.getElem_toArray, List.getElem_cons_zero, List.getElem_cons_succ, List.setIfInBounds_toArray, List.set_cons_zero, List.set_cons_succ]
            refine wpAnyH_take (i := 8) (v := ?_) rfl (by kernel_rfl) (by kernel_rfl) (by kernel_rfl) (fun _ _ _ h => h) (Or.inl ⟨by rfl, ?_⟩) hHeld ?_
            rotate_left
            · intro w hSw
              go_simp
              with_reducible rfl
            simp only [Act.put, List.getElem_toArray, List.getElem_cons_zero, List.getElem_cons_succ, List.setIfInBounds_toArray, List.set_cons_zero, List.set_cons_succ]
            refine wpAnyH_ready (rs := [9]) (by kernel_rfl) (by simp) ?_
            refine AllReadyH.cons rfl (fun K hK => ?_) AllReadyH.nil
            go_simp
            refine hK.out _ _ ⟨rangeM (Blk.alloc HP2.out _), range_keep HRg2.out (alloc_below _ _)⟩ (fun hHeld => ?_)
            clear hK K
            refine wpAnyH_ready (rs := [10]) (by kernel_rfl) (by simp) ?_
            refine AllReadyH.cons rfl (fun K hK => ?_) AllReadyH.nil
            go_simp
            refine hK.out _ _ ⟨rangeM (Blk.alloc HP2.out _), range_keep HRg2.out (alloc_below _ _)⟩ (fun hHeld => ?_)
            clear hK K
            refine wpAnyH_take (i := 11) (v := ?_) rfl (by kernel_rfl) (by kernel_rfl) (by kernel_rfl) (fun _ _ _ h => h) (Or.inl ⟨by rfl, ?_⟩) hHeld ?_
            rotate_left
            · intro w hSw
              go_simp
              with_reducible rfl
            simp only [Act.put, List.getElem_toArray, List.getElem_cons_zero, List.getElem_cons_succ, List.setIfInBounds_toArray, List.set_cons_zero, List.set_cons_succ]
            refine wpAnyH_done (by kernel_rfl) ?_ _
            clear hHeld
            refine fin (fun W => BM W w1.heap.size P ∧ Blk W w.heap.size 25 #[.int .i64 0, .int .i64 0, .int .i64 0, .int .i64 0, .int .i64 0, .int .i64 0, .int .i64 0, .int .i64 0, .int .i64 0, .int .i64 0, .int .i64 0, .int .i64 0] ∧ BM W w2.heap.size (prodM P N) ∧ w1.heap.size ≠ w2.heap.size ∧ w.heap.size ≠ w2.heap.size ∧ Below w.heap.size w W) ⟨Blk.alloc HP2.out _, HRes2.out.alloc _, Blk.new w2 _ _, by have := HP2.out.lt; omega, by have := HRes2.out.lt; omega, balloc HB2.out _⟩ ?_
            rintro W ⟨hp, hres, hx, hne2, hne3, hb⟩
            clear HP2 HRes2 HB2 HRg2
            have HP := Lib.hid hp
            have HRes := Lib.hid hres
            have HX := Lib.hid hx
            have HB := Lib.hid hb
            clear hp hres hx hb
            obtain ⟨y, hy⟩ : ∃ y, y = prodE2 P N := ⟨_, rfl⟩
            have HY := Lib.hid hy
            rw [← hy]
            clear hy
            by_cases he : y = 0
            · have HEk := Lib.hid he
              have he' : (y != 0) = false := by rw [he]; rfl
              clear he
              obtain ⟨x0, x1, x2, x3, x4, x5, x6, x7, x8, x9, x10, x11, _, _, _, _, _, _, _, _, _, _, _, _⟩ := blk12 HX.out
              obtain ⟨p0, p1, p2, p3, p4, p5, p6, p7, p8, p9, p10, p11, q0, q1, q2, q3, q4, q5, q6, q7, q8, q9, q10, q11⟩ := blk12 HP.out
              go_wp2
              go_roundw
              case rel =>
                refine ⟨_, _, _, _, _, _, _, _, _, _, _, _, _, _, _, _, _, _, _, _, _, _, _, _, ?_, rfl⟩
                exact ⟨k + 1, prodM P N, by omega, by omega, by go_num, by rw [HF.out]; exact foldM_ok HV.out (by rw [← HY.out]; exact HEk.out), prodM_ok P N, Blk.set12 HP.out, HRes.out.far12 (by omega), bset12 HB.out (by omega)⟩
              case measure => simp [intOf] <;> omega
            · have HEk := Lib.hid he
              have he' : (y != 0) = true := by simpa using he
              clear he
              obtain ⟨c0, c1, c2, c3, c4, c5, c6, c7, c8, c9, c10, c11, f0, f1, f2, f3, f4, f5, f6, f7, f8, f9, f10, f11⟩ := blk12 HRes.out
              go_wp2
              refine fin (fun W => Blk W w.heap.size 25 #[.int .i64 0, .int .i64 0, .int .i64 0, .int .i64 0, .int .i64 0, .int .i64 0, .int .i64 0, .int .i64 0, .int .i64 0, .int .i64 0, .int .i64 0, .int .i64 0] ∧ Below w.heap.size w W) ⟨Blk.set12 HRes.out, bset12 HB.out (by omega)⟩ ?_
              rintro W ⟨hk3, hb3⟩
              clear c0 c1 c2 c3 c4 c5 c6 c7 c8 c9 c10 c11 f0 f1 f2 f3 f4 f5 f6 f7 f8 f9 f10 f11
              obtain ⟨c0, c1, c2, c3, c4, c5, c6, c7, c8, c9, c10, c11, _, _, _, _, _, _, _, _, _, _, _, _⟩ := blk12 hk3
              have e1 : foldM M Ms = (zeroM, y) := by rw [HF.out, HY.out]; exact foldM_no HV.out (by rw [← HY.out]; exact HEk.out)
              exact bodyPost_ret (v := .tuple #[.agg #[.int .i64 0, .int .i64 0, .int .i64 0, .int .i64 0, .int .i64 0, .int .i64 0, .int .i64 0, .int .i64 0, .int .i64 0, .int .i64 0, .int .i64 0, .int .i64 0], .int .i64 y]) (by simp [results, Try.results9, go_sem, c0, c1, c2, c3, c4, c5, c6, c7, c8, c9, c10, c11]) rfl ⟨by rw [e1]; rfl, hb3⟩
          · go_simp
            refine hK.out _ _ ⟨rangeM (Blk.alloc (Blk.drew HP.out) _), range_keep (range_drew HRg.out) (alloc_below _ _)⟩ (fun hHeld => ?_)
            clear hK K
            refine wpAnyH_ready (rs := [5]) (by kernel_rfl) (by simp) ?_
            refine AllReadyH.cons rfl (fun K hK => ?_) AllReadyH.nil
            go_simp
            go_at_call 25
            refine (rtwo_yes P N _ HOP.out HK.out).mono ?_
            rintro e w2 ⟨rfl, b2⟩
            have b3 := bthen (alloc_below _ _) (bdrew b2)
            have HX2 := Lib.hid ((Blk.new wr 25 _).keep (bdrew b2))
            have HP2 := Lib.hid (Blk.keep HP.out b3)
            have HRes2 := Lib.hid (HRes.out.keep b3)
            have HB2 := Lib.hid (bthen HB.out b3)
            have HRg2 := Lib.hid (range_keep HRg.out b3)
            have hb1 : b ≠ wr.heap.size := by have := cell_lt (HRg.out 0 _ rfl); simp at this; omega
            have hb2 : w1.heap.size ≠ wr.heap.size := by have := Blk.lt HP.out; omega
            have hb4 : w.heap.size ≠ wr.heap.size := by have := HRes.out.lt; omega
            have hb5 : w.heap.size ≤ wr.heap.size := HB.out.size
            go_wp2_with fail
            refine hK.out _ _ ⟨rangeM HP2.out, HRg2.out⟩ (fun hHeld => ?_)
            clear hK K
            clear b2 b3 HP HRes HB HRg
            refine wpAnyH_take (i := 6) (v := ?_) rfl (by kernel_rfl) (by kernel_rfl) (by kernel_rfl) (fun _ _ _ h => h) (Or.inl ⟨by rfl, ?_⟩) hHeld ?_
            rotate_left
            · intro w hSw
              go_simp
              with_reducible rfl
            simp only [Act.put, List.getElem_toArray, List.getElem_cons_zero, List.getElem_cons_succ, List.setIfInBounds_toArray, List.set_cons_zero, List.set_cons_succ]
            refine wpAnyH_take (i := 7) (v := ?_) rfl (by kernel_rfl) (by kernel_rfl) (by kernel_rfl) (fun _ _ _ h => h) (Or.inl ⟨by rfl, ?_⟩) hHeld ?_
            rotate_left
            · intro w hSw
              go_simp
              with_reducible rfl
            simp only [Act.put, List.getElem_toArray, List.getElem_cons_zero, List.getElem_cons_succ, List.setIfInBounds_toArray, List.set_cons_zero, List.set_cons_succ]
            refine wpAnyH_take (i := 8) (v := ?_) rfl (by kernel_rfl) (by kernel_rfl) (by kernel_rfl) (fun _ _ _ h => h) (Or.inl ⟨by rfl, ?_⟩) hHeld ?_
            rotate_left
            · intro w hSw
              go_simp
              with_reducible rfl
            simp only [Act.put, List.getElem_toArray, List.getElem_cons_zero, List.getElem_cons_succ, List.setIfInBounds_toArray, List.set_cons_zero, List.set_cons_succ]
            obtain ⟨c0, c1, c2, c3, c4, c5, c6, c7, c8, c9, c10, c11, f0, f1, f2, f3, f4, f5, f6, f7, f8, f9, f10, f11⟩ := blk12 HX2.out
            refine wpAnyH_ready (rs := [10]) (by kernel_rfl) (by simp) ?_
            refine AllReadyH.cons rfl (fun K hK => ?_) AllReadyH.nil
            go_simp
            refine hK.out _ _ ⟨rangeM (Blk.far12 HP2.out hb2), range_far12 HRg2.out hb1⟩ (fun hHeld => ?_)
            clear hK K
            clear c0 c1 c2 c3 c4 c5 c6 c7 c8 c9 c10 c11 f0 f1 f2 f3 f4 f5 f6 f7 f8 f9 f10 f11
            refine wpAnyH_take (i := 11) (v := ?_) rfl (by kernel_rfl) (by kernel_rfl) (by kernel_rfl) (fun _ _ _ h => h) (Or.inl ⟨by rfl, ?_⟩) hHeld ?_
            rotate_left
            · intro w hSw
              go_simp
              with_reducible rfl
            simp only [Act.put, List.getElem_toArray, List.getElem_cons_zero, List.getElem_cons_succ, List.setIfInBounds_toArray, List.set_cons_zero, List.set_cons_succ]
            refine wpAnyH_done (by kernel_rfl) ?_ _
            clear hHeld
            refine fin (fun W => BM W w1.heap.size P ∧ Blk W w.heap.size 25 #[.int .i64 0, .int .i64 0, .int .i64 0, .int .i64 0, .int .i64 0, .int .i64 0, .int .i64 0, .int .i64 0, .int .i64 0, .int .i64 0, .int .i64 0, .int .i64 0] ∧ BM W wr.heap.size (prodM P N) ∧ w1.heap.size ≠ wr.heap.size ∧ w.heap.size ≠ wr.heap.size ∧ Below w.heap.size w W) ⟨Blk.far12 HP2.out hb2, HRes2.out.far12 hb4, Blk.set12 HX2.out, hb2, hb4, bset12 HB2.out hb5⟩ ?_
            clear hb1 hb2 hb4 hb5
            rintro W ⟨hp, hres, hx, hne2, hne3, hb⟩
            clear HP2 HRes2 HB2 HRg2 HX2
            have HP := Lib.hid hp
            have HRes := Lib.hid hres
            have HX := Lib.hid hx
            have HB := Lib.hid hb
            clear hp hres hx hb
            obtain ⟨y, hy⟩ : ∃ y, y = prodE2 P N := ⟨_, rfl⟩
            have HY := Lib.hid hy
            rw [← hy]
            clear hy
            by_cases he : y = 0
            · have HEk := Lib.hid he
              have he' : (y != 0) = false := by rw [he]; rfl
              clear he
              obtain ⟨x0, x1, x2, x3, x4, x5, x6, x7, x8, x9, x10, x11, _, _, _, _, _, _, _, _, _, _, _, _⟩ := blk12 HX.out
              obtain ⟨p0, p1, p2, p3, p4, p5, p6, p7, p8, p9, p10, p11, q0, q1, q2, q3, q4, q5, q6, q7, q8, q9, q10, q11⟩ := blk12 HP.out
              go_wp2
              go_roundw
              case rel =>
                refine ⟨_, _, _, _, _, _, _, _, _, _, _, _, _, _, _, _, _, _, _, _, _, _, _, _, ?_, rfl⟩
                exact ⟨k + 1, prodM P N, by omega, by omega, by go_num, by rw [HF.out]; exact foldM_ok HV.out (by rw [← HY.out]; exact HEk.out), prodM_ok P N, Blk.set12 HP.out, HRes.out.far12 (by omega), bset12 HB.out (by omega)⟩
              case measure => simp [intOf] <;> omega
            · have HEk := Lib.hid he
              have he' : (y != 0) = true := by simpa using he
              clear he
              obtain ⟨c0, c1, c2, c3, c4, c5, c6, c7, c8, c9, c10, c11, f0, f1, f2, f3, f4, f5, f6, f7, f8, f9, f10, f11⟩ := blk12 HRes.out
              go_wp2
              refine fin (fun W => Blk W w.heap.size 25 #[.int .i64 0, .int .i64 0, .int .i64 0, .int .i64 0, .int .i64 0, .int .i64 0, .int .i64 0, .int .i64 0, .int .i64 0, .int .i64 0, .int .i64 0, .int .i64 0] ∧ Below w.heap.size w W) ⟨Blk.set12 HRes.out, bset12 HB.out (by omega)⟩ ?_
              rintro W ⟨hk3, hb3⟩
              clear c0 c1 c2 c3 c4 c5 c6 c7 c8 c9 c10 c11 f0 f1 f2 f3 f4 f5 f6 f7 f8 f9 f10 f11
              obtain ⟨c0, c1, c2, c3, c4, c5, c6, c7, c8, c9, c10, c11, _, _, _, _, _, _, _, _, _, _, _, _⟩ := blk12 hk3
              have e1 : foldM M Ms = (zeroM, y) := by rw [HF.out, HY.out]; exact foldM_no HV.out (by rw [← HY.out]; exact HEk.out)
              exact bodyPost_ret (v := .tuple #[.agg #[.int .i64 0, .int .i64 0, .int .i64 0, .int .i64 0, .int .i64 0, .int .i64 0, .int .i64 0, .int .i64 0, .int .i64 0, .int .i64 0, .int .i64 0, .int .i64 0], .int .i64 y]) (by simp [results, Try.results9, go_sem, c0, c1, c2, c3, c4, c5, c6, c7, c8, c9, c10, c11]) rfl ⟨by rw [e1]; rfl, hb3⟩
        · obtain rfl : k = n + 1 := by omega
          have e1 : foldM M Ms = (P, 0) := by rw [HF.out, List.drop_of_length_le (by rw [HL.out]; exact Nat.le_refl _)]; rfl
          have HE := Lib.hid e1
          clear e1
          obtain ⟨o0, o1, o2, o3, o4, o5, o6, o7, o8, o9, o10, o11, _, _, _, _, _, _, _, _, _, _, _, _⟩ := blk12 HP.out
          obtain ⟨c0, c1, c2, c3, c4, c5, c6, c7, c8, c9, c10, c11, f0, f1, f2, f3, f4, f5, f6, f7, f8, f9, f10, f11⟩ := blk12 HRes.out
          go_wp2
          exact bodyPost_ret (v := .tuple #[.agg #[.int .i64 (P 0), .int .i64 (P 1), .int .i64 (P 2), .int .i64 (P 3), .int .i64 (P 4), .int .i64 (P 5), .int .i64 (P 6), .int .i64 (P 7), .int .i64 (P 8), .int .i64 (P 9), .int .i64 (P 10), .int .i64 (P 11)], .int .i64 0]) (by simp [results, Try.results9, go_sem, c0, c1, c2, c3, c4, c5, c6, c7, c8, c9, c10, c11]) rfl ⟨by rw [HE.out], bset12 HB.out (by omega)⟩

theorem rmmul_any (a : Option Addr) (len cap : Nat) (Ms : List (Nat → Int)) (w : World) (row : MRow w a len Ms) :
    Calls Try.prog 9 #[.slice a len cap] w fun e w' => e = .returned (.tuple #[.agg #[.int .i64 ((mulMs Ms).1 0), .int .i64 ((mulMs Ms).1 1), .int .i64 ((mulMs Ms).1 2), .int .i64 ((mulMs Ms).1 3), .int .i64 ((mulMs Ms).1 4), .int .i64 ((mulMs Ms).1 5), .int .i64 ((mulMs Ms).1 6), .int .i64 ((mulMs Ms).1 7), .int .i64 ((mulMs Ms).1 8), .int .i64 ((mulMs Ms).1 9), .int .i64 ((mulMs Ms).1 10), .int .i64 ((mulMs Ms).1 11)], .int .i64 (mulMs Ms).2]) ∧ Below w.heap.size w w' := by
  by_cases h : rightM Ms = true
  · match Ms, row, h with
    | [], row, h =>
      have e := row.1
      simp at e
      subst e
      exact rmul_none a cap w
    | M :: Ms, row, h =>
      have e := row.1
      obtain ⟨n, rfl⟩ : ∃ n, len = n + 1 := ⟨Ms.length, by simpa using e.symm⟩
      obtain ⟨b, off, rfl⟩ : ∃ b off, a = some ⟨b, off, none⟩ := by
        rcases row.2.2 with h0 | ⟨b, off, e, _⟩
        · omega
        · exact ⟨b, off, e⟩
      rw [mulMs_cons h]
      exact rmul_some b off n cap M Ms w row h
  · have h' : rightM Ms = false := by simpa using h
    rw [mulMs_no h']
    exact rmul_no a len cap Ms w row h'

end Go.Proofs.Ytjdoneacbnalaaa
