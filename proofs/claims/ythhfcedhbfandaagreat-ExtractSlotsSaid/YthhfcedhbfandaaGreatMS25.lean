/-
  3 texts in one file, each with its own heading.
-/
import Derived.Test.YthhfcedhbfandaaGreatMS24
/-
  The library's CompactFunc, walked: of each name the first row stays.
-/
namespace Go.Proofs.YthhfcedhbfandaaGreat
open Go.RowKit

theorem MR.tail {k : Nat} {c : Rc → List Value} (hc : ∀ x, (c x).length = k) {t : TypeId} {w : World} {g : Nat} {A B : List Rc} (h : MR k c t w g (A ++ B)) {zs : List Value} (hz : zs.length ≤ B.length * k) : MR k c t (w.setCells g (A.length * k) zs) g A := by
  obtain ⟨cur, hb, hl, ht⟩ := h
  rw [List.length_append, Nat.add_mul] at hl ht
  have hb' := blk_setCells zs (o := A.length * k) hb (by omega)
  refine ⟨_, hb', by rw [splice_len (by omega)]; omega, ?_⟩
  have e : cur.take (A.length * k) = A.flatMap c := by
    have := congrArg (List.take (A.length * k)) ht
    rw [List.take_take, Nat.min_eq_left (by omega), List.flatMap_append] at this
    rw [this]
    rw [← flatx_len hc A, List.take_left]
  unfold splice
  rw [List.append_assoc, List.take_append_of_le_length (by rw [List.length_take]; omega), List.take_take, Nat.min_self]
  exact e
theorem comp_yes {X : List Rc} {t : Nat} {x y : Rc} (hx : X[t + 1]? = some x) (hy : X[t]? = some y) (h : (x.id == y.id) = true) : compT X (t + 1 + 1) = compT X (t + 1) := by
  show compT X (t + 1) ++ _ = _
  rw [keep_at hx hy, h]
  simp
theorem comp_no {X : List Rc} {t : Nat} {x y : Rc} (hx : X[t + 1]? = some x) (hy : X[t]? = some y) (h : (x.id == y.id) = false) : compT X (t + 1 + 1) = compT X (t + 1) ++ [x] := by
  show compT X (t + 1) ++ _ = _
  rw [keep_at hx hy, h, hx]
  simp
theorem comp_one {X : List Rc} {x : Rc} (hx : X[0]? = some x) : compT X 1 = X.take 1 := by
  show [] ++ _ = _
  rw [keep_zero hx, hx, List.take_one, List.head?_eq_getElem?, hx]
  simp
set_option maxHeartbeats 16000000 in
set_option maxRecDepth 100000 in
theorem comp_any (g n cap : Nat) (X : List Rc) (w : World) (hX : MR 12 cRc 92 w g X) (hn : X.length = n) (hbig : n ≤ 1000000) (hpos : 0 < n) (hcap : n ≤ cap) (hcm : cap ≤ maxLen) :
    Calls Tryz.prog 223 #[.slice (some ⟨g, 0, none⟩) n cap, .func (.func 219) #[] #[]] w fun e w' => ∃ m, e = .returned (.slice (some ⟨g, 0, none⟩) m cap) ∧ (compT X n).length = m ∧ DR w 92 g w' (compT X n) := by
  have H0 : Hid (DR w 92 g w X) := Lib.hid (DR.start hX)
  have HLn := Lib.hid hn
  obtain ⟨x0, hx0⟩ : ∃ x, X[0]? = some x := ⟨_, List.getElem?_eq_getElem (by omega)⟩
  have HC1 := Lib.hid (comp_one hx0)
  have hE := enters_same
  unfold Enters at hE
  unfold maxLen at hcm
  clear hX hn hx0
  by_cases h2 : n < 2
  · have HE : Hid (compT X n = X) := Lib.hid (by
      obtain rfl : n = 1 := by omega
      rw [HC1.out, List.take_of_length_le (by rw [HLn.out]; exact Nat.le_refl _)])
    have g1 : (n : Int) < 2 := by omega
    go_enter Tryz.func223, Tryz.ntmps223
    go_wp2
    go_ret
    exact ⟨n, rfl, by rw [HE.out]; exact HLn.out, by rw [HE.out]; exact H0.out⟩
  · have g1 : ¬ (n : Int) < 2 := by omega
    go_enter Tryz.func223, Tryz.ntmps223
    go_wp2
    go_loopw [5, 6, 7] (fun v5 _ _ wr => ∃ q : Nat, v5 = .int .i64 ((q + 1 : Nat) : Int) ∧ q + 1 ≤ n ∧ DR w 92 g wr X ∧ compT X (q + 1) = X.take (q + 1)) (fun v5 _ _ _ => n - (ivl v5).toNat)
    case atStart => exact ⟨0, rfl, by omega, H0.out, HC1.out⟩
    case round =>
      clear H0 HC1
      obtain ⟨q, rfl, hq, hd, hc⟩ := hrel
      have HD := Lib.hid hd
      have HC := Lib.hid hc
      clear hd hc
      by_cases hlt : q + 1 < n
      · have hxl := HLn.out
        obtain ⟨x, hx⟩ : ∃ x, X[q + 1]? = some x := ⟨_, List.getElem?_eq_getElem (by omega)⟩
        obtain ⟨y, hy⟩ : ∃ y, X[q]? = some y := ⟨_, List.getElem?_eq_getElem (by omega)⟩
        have HS : Hid (∀ W, Below wr.heap.size wr W → W.rangeAt g ((q + 1) * 12) (cRc x) ∧ W.rangeAt g (q * 12) (cRc y)) := Lib.hid (fun W hb => ⟨ (HD.out.below hb).1.range cRc_len hx,  (HD.out.below hb).1.range cRc_len hy⟩)
        have HCm : Hid (∀ W, Calls Tryz.prog 219 #[.agg (cRc x).toArray, .agg (cRc y).toArray] W fun e w' => e = .returned (.bool ((x).id == (y).id)) ∧ Below W.heap.size W w') := Lib.hid (fun W => samename_any x y W)
        have HSz : Hid (((Tryz.prog.info? 92).map (·.size) = some (cRc x).length) ∧ ((Tryz.prog.info? 92).map (·.size) = some (cRc y).length)) := Lib.hid ⟨rc_size x, rc_size y⟩
        obtain ⟨XP, hXP⟩ : ∃ XP, XP = cRc x := ⟨_, rfl⟩
        obtain ⟨XQ, hXQ⟩ : ∃ XQ, XQ = cRc y := ⟨_, rfl⟩
        rw [← hXP, ← hXQ] at HCm HSz HS
        clear hXP hXQ
        have HYes : Hid ((x.id == y.id) = true → compT X (q + 1 + 1) = X.take (q + 1)) := Lib.hid (fun h => by rw [comp_yes hx hy h, HC.out])
        have HNo : Hid ((x.id == y.id) = false → compT X (q + 1 + 1) = X.take (q + 1 + 1)) := Lib.hid (fun h => by rw [comp_no hx hy h, HC.out, List.take_add_one (i := q + 1), hx]; rfl)
        obtain ⟨bb, hbb⟩ : ∃ bb, bb = (x.id == y.id) := ⟨_, rfl⟩
        rw [← hbb] at HCm HYes HNo
        have hw1 : IntKind.i64.wrap (((q + 1 : Nat) : Int) - 1) = (q : Int) := by rw [show ((q + 1 : Nat) : Int) - 1 = (q : Int) by omega]; exact IntWalk.i64_in _ (by omega)
        obtain ⟨p, hp⟩ : ∃ p, p = q + 1 := ⟨_, rfl⟩
        rw [← hp] at hw1 HS HYes HNo hlt hq ⊢
        have p0 : (0 : Int) ≤ (p : Int) := by omega
        have p1 : (p : Int) < (n : Int) := by omega
        have q0 : (0 : Int) ≤ (q : Int) := by omega
        have q1 : (q : Int) < (n : Int) := by omega
        have HP := Lib.hid hp
        clear hp hx hy hbb hxl HC
        cases bb
        · go_wp2_with fail
          refine wp_region_held_drew (S := fun w' => w'.rangeAt g (p * 12) XP ∧ w'.rangeAt g (q * 12) XQ) (by kernel_rfl) (HS.out _ (bdrew (Below.refl _ _))) (fun hHeld => ?_)
          refine tk 0 hHeld ?_
          refine tk 1 hHeld ?_
          refine tk 2 hHeld ?_
          refine tk 3 hHeld ?_
          refine tkl 4 rfl (yieldsIf_load_mid (by rfl) _ _ rfl _ _ rfl _ _ (fun _ h => h.1) Tryz.underlying92 rfl HSz.out.1) hHeld ?_
          refine tk 5 hHeld ?_
          refine tk 6 hHeld ?_
          refine tk 7 hHeld ?_
          refine tk 8 hHeld ?_
          refine tkl 9 rfl (yieldsIf_load_mid (by rfl) _ _ rfl _ _ rfl _ _ (fun _ h => h.2) Tryz.underlying92 rfl HSz.out.2) hHeld ?_
          refine rd 10 (fun K hK => ?_)
          go_simp
          refine (HCm.out _).mono ?_
          rintro e w1 ⟨rfl, b1⟩
          go_wp2_with fail
          refine hK.out _ _ (HS.out _ (bthen (bdrew (Below.refl _ _)) b1)) (fun hHeld => ?_)
          clear hK K
          refine wpAnyH_done (by kernel_rfl) ?_ _
          clear hHeld
          refine fin (fun W => Below wr.heap.size wr W) (bthen (bdrew (Below.refl _ _)) b1) ?_
          clear b1 HS HCm
          rintro W hbW
          have HBW := Lib.hid hbW
          clear hbW
          have HD2 := Lib.hid (HD.out.below HBW.out)
          have HC2 := Lib.hid (HNo.out (by trivial))
          clear HD HBW HYes HNo
          go_wp2
          go_roundw
          case rel => exact ⟨p, by go_num, by omega, HD2.out, HC2.out⟩
          case measure => simp [ivl] <;> omega
        · go_wp2_with fail
          refine wp_region_held_drew (S := fun w' => w'.rangeAt g (p * 12) XP ∧ w'.rangeAt g (q * 12) XQ) (by kernel_rfl) (HS.out _ (bdrew (Below.refl _ _))) (fun hHeld => ?_)
          refine tk 0 hHeld ?_
          refine tk 1 hHeld ?_
          refine tk 2 hHeld ?_
          refine tk 3 hHeld ?_
          refine tkl 4 rfl (yieldsIf_load_mid (by rfl) _ _ rfl _ _ rfl _ _ (fun _ h => h.1) Tryz.underlying92 rfl HSz.out.1) hHeld ?_
          refine tk 5 hHeld ?_
          refine tk 6 hHeld ?_
          refine tk 7 hHeld ?_
          refine tk 8 hHeld ?_
          refine tkl 9 rfl (yieldsIf_load_mid (by rfl) _ _ rfl _ _ rfl _ _ (fun _ h => h.2) Tryz.underlying92 rfl HSz.out.2) hHeld ?_
          refine rd 10 (fun K hK => ?_)
          go_simp
          refine (HCm.out _).mono ?_
          rintro e w1 ⟨rfl, b1⟩
          go_wp2_with fail
          refine hK.out _ _ (HS.out _ (bthen (bdrew (Below.refl _ _)) b1)) (fun hHeld => ?_)
          clear hK K
          refine wpAnyH_done (by kernel_rfl) ?_ _
          clear hHeld
          refine fin (fun W => Below wr.heap.size wr W) (bthen (bdrew (Below.refl _ _)) b1) ?_
          clear b1 HS HCm
          rintro W hbW
          have HBW := Lib.hid hbW
          clear hbW
          have HD2 := Lib.hid (HD.out.below HBW.out)
          have HC2 := Lib.hid (HYes.out (by trivial))
          clear HD HBW HYes HNo
          have HLp : Hid ((compT X (p + 1)).length = p) := Lib.hid (by rw [HC2.out, List.length_take, HLn.out]; omega)
          have HDs : Hid (DR w 92 g W (compT X (p + 1) ++ X.drop (compT X (p + 1)).length)) := Lib.hid (by rw [HLp.out, HC2.out, List.take_append_drop]; exact HD2.out)
          have ncap : ¬ cap = p := by omega
          clear HC2 HD2
          go_wp2
          go_loopw [5, 7] (fun v5 v7 wr => ∃ j : Nat, v7 = .int .i64 ((j + 1 : Nat) : Int) ∧ v5 = .int .i64 ((compT X (p + j + 1)).length : Int) ∧ p + j + 1 ≤ n ∧ (compT X (p + j + 1)).length < p + j + 1 ∧ DR w 92 g wr (compT X (p + j + 1) ++ X.drop (compT X (p + j + 1)).length)) (fun _ v7 _ => n - (ivl v7).toNat)
          case atStart => exact ⟨0, rfl, by rw [Nat.add_zero, HLp.out], by omega, by rw [Nat.add_zero, HLp.out]; omega, HDs.out⟩
          case round =>
            clear HDs HLp
            obtain ⟨j, rfl, rfl, hjn, hkk, hd⟩ := hrel
            have hkl := comp_len X (p + j + 1) (by rw [HLn.out]; exact hjn)
            have HCz : Hid (∀ x y, X[p + j + 1]? = some x → X[p + j]? = some y → ((x.id == y.id) = true → compT X (p + j + 1 + 1) = compT X (p + j + 1)) ∧ ((x.id == y.id) = false → compT X (p + j + 1 + 1) = compT X (p + j + 1) ++ [x])) := Lib.hid (fun x y hx hy => ⟨comp_yes hx hy, comp_no hx hy⟩)
            obtain ⟨C, hC⟩ : ∃ C, C = compT X (p + j + 1) := ⟨_, rfl⟩
            have HCe := Lib.hid hC
            rw [← hC] at hkk hd hkl HCz ⊢
            obtain ⟨kk, hk⟩ : ∃ kk, kk = C.length := ⟨_, rfl⟩
            rw [← hk] at hkk hd hkl ⊢
            have HK := Lib.hid hk
            have HD := Lib.hid hd
            clear hC hk hd
            have hZl : Hid ((C ++ X.drop kk).length = n) := Lib.hid (by rw [List.length_append, List.length_drop, ← HK.out, HLn.out]; omega)
            by_cases hlt2 : p + j + 1 < n
            · have hxl := HLn.out
              obtain ⟨x2, hx2⟩ : ∃ x, X[p + j + 1]? = some x := ⟨_, List.getElem?_eq_getElem (by omega)⟩
              obtain ⟨y2, hy2⟩ : ∃ y, X[p + j]? = some y := ⟨_, List.getElem?_eq_getElem (by omega)⟩
              have zx : (C ++ X.drop kk)[p + j + 1]? = some x2 := by
                rw [List.getElem?_append_right (by rw [← HK.out]; omega), List.getElem?_drop, ← HK.out, show kk + (p + j + 1 - kk) = p + j + 1 by omega]; exact hx2
              have zy : (C ++ X.drop kk)[p + j]? = some y2 := by
                rw [List.getElem?_append_right (by rw [← HK.out]; omega), List.getElem?_drop, ← HK.out, show kk + (p + j - kk) = p + j by omega]; exact hy2
              obtain ⟨hz1, hz2⟩ := HCz.out x2 y2 hx2 hy2
              obtain ⟨p2, hp2⟩ : ∃ p2, p2 = j + 1 := ⟨_, rfl⟩
              have HS : Hid (∀ W, Below wr.heap.size wr W → W.rangeAt g (p * 12 + p2 * 12) (cRc x2) ∧ W.rangeAt g (p * 12 + j * 12) (cRc y2)) := Lib.hid (fun W hb => ⟨(fun q => by rw [show p * 12 + p2 * 12 = (p + j + 1) * 12 by omega]; exact q) <| (HD.out.below hb).1.range cRc_len zx, (fun q => by rw [show p * 12 + j * 12 = (p + j) * 12 by omega]; exact q) <| (HD.out.below hb).1.range cRc_len zy⟩)
              have HCm : Hid (∀ W, Calls Tryz.prog 219 #[.agg (cRc x2).toArray, .agg (cRc y2).toArray] W fun e w' => e = .returned (.bool ((x2).id == (y2).id)) ∧ Below W.heap.size W w') := Lib.hid (fun W => samename_any x2 y2 W)
              have HSz : Hid (((Tryz.prog.info? 92).map (·.size) = some (cRc x2).length) ∧ ((Tryz.prog.info? 92).map (·.size) = some (cRc y2).length)) := Lib.hid ⟨rc_size x2, rc_size y2⟩
              obtain ⟨XP, hXP⟩ : ∃ XP, XP = cRc x2 := ⟨_, rfl⟩
              obtain ⟨XQ, hXQ⟩ : ∃ XQ, XQ = cRc y2 := ⟨_, rfl⟩
              rw [← hXP, ← hXQ] at HCm HSz HS
              clear hXP hXQ
              have HYes : Hid ((x2.id == y2.id) = true → compT X (p + j + 1 + 1) = C) := Lib.hid hz1
              have HNo : Hid ((x2.id == y2.id) = false → compT X (p + j + 1 + 1) = C ++ [x2]) := Lib.hid hz2
              obtain ⟨bb, hbb⟩ : ∃ bb, bb = (x2.id == y2.id) := ⟨_, rfl⟩
              rw [← hbb] at HCm HYes HNo
              have hw2 : IntKind.i64.wrap (((j + 1 : Nat) : Int) - 1) = (j : Int) := by rw [show ((j + 1 : Nat) : Int) - 1 = (j : Int) by omega]; exact IntWalk.i64_in _ (by omega)
              rw [← hp2] at hw2 ⊢
              have a0 : (0 : Int) ≤ (p2 : Int) := by omega
              have a1 : (p2 : Int) < ((n - p : Nat) : Int) := by omega
              have b0 : (0 : Int) ≤ (j : Int) := by omega
              have b1' : (j : Int) < ((n - p : Nat) : Int) := by omega
              have HP2 := Lib.hid hp2
              have HX2 : Hid (∀ W, Below wr.heap.size wr W → W.rangeAt g (p * 12 + p2 * 12) (cRc x2) ∧ W.there g (kk * 12) 12 ∧ DR w 92 g (W.setCells g (kk * 12) (cRc x2)) ((C ++ X.drop kk).set kk x2)) := Lib.hid (fun W hb => by
                have hD := HD.out.below hb
                have hl := hZl.out
                refine ⟨by rw [show p * 12 + p2 * 12 = (p + j + 1) * 12 by omega]; exact hD.1.range cRc_len zx, hD.1.there (by omega), hD.1.set_ cRc_len (by omega) x2, grown_trans hD.2 (grown_cells _ _ _ _)⟩)
              have HSet : Hid ((C ++ X.drop kk).set kk x2 = (C ++ [x2]) ++ X.drop (kk + 1)) := Lib.hid (by
                have e : X.drop kk = X[kk]'(by omega) :: X.drop (kk + 1) := List.drop_eq_getElem_cons (by omega)
                rw [e]
                have := set_mid C (X[kk]'(by omega)) x2 (X.drop (kk + 1))
                rw [← HK.out] at this
                rw [this]
                simp)
              clear hp2 hx2 hy2 zx zy hz1 hz2 hbb hxl HCz
              cases bb
              · have k0 : (0 : Int) ≤ (kk : Int) := by omega
                have k1 : (kk : Int) < (n : Int) := by omega
                go_wp2_with fail
                refine wp_region_held_drew (S := fun w' => w'.rangeAt g (p * 12 + p2 * 12) XP ∧ w'.rangeAt g (p * 12 + j * 12) XQ) (by kernel_rfl) (HS.out _ (bdrew (Below.refl _ _))) (fun hHeld => ?_)
                refine tk 0 hHeld ?_
                refine tk 1 hHeld ?_
                refine tk 2 hHeld ?_
                refine tk 3 hHeld ?_
                refine tkl 4 rfl (yieldsIf_load_mid (by rfl) _ _ rfl _ _ rfl _ _ (fun _ h => h.1) Tryz.underlying92 rfl HSz.out.1) hHeld ?_
                refine tk 5 hHeld ?_
                refine tk 6 hHeld ?_
                refine tk 7 hHeld ?_
                refine tk 8 hHeld ?_
                refine tkl 9 rfl (yieldsIf_load_mid (by rfl) _ _ rfl _ _ rfl _ _ (fun _ h => h.2) Tryz.underlying92 rfl HSz.out.2) hHeld ?_
                refine rd 10 (fun K hK => ?_)
                go_simp
                refine (HCm.out _).mono ?_
                rintro e w1 ⟨rfl, b1⟩
                go_wp2_with fail
                refine hK.out _ _ (HS.out _ (bthen (bdrew (Below.refl _ _)) b1)) (fun hHeld => ?_)
                clear hK K
                refine tk 11 hHeld ?_
                refine wpAnyH_done (by kernel_rfl) ?_ _
                clear hHeld
                refine fin (fun W => Below wr.heap.size wr W) (bthen (bdrew (Below.refl _ _)) b1) ?_
                clear b1 HS HCm
                rintro W hbW
                have HBW := Lib.hid hbW
                clear hbW
                have HX3 := Lib.hid (HX2.out W HBW.out)
                have HC2 := Lib.hid (HNo.out (by trivial))
                obtain ⟨XZ, hXZ⟩ : ∃ XZ, XZ = cRc x2 := ⟨_, rfl⟩
                rw [← hXZ] at HX3
                have HL3 : Hid (XZ.length = 12 ∧ XZ.toArray.all (·.oneCell') = true) := Lib.hid (by rw [hXZ]; exact ⟨rfl, rc_all _⟩)
                have HS1 : Hid ((Tryz.prog.info? 92).map (·.size) = some XZ.length) := Lib.hid (by rw [hXZ]; exact rc_size x2)
                have HS2 : Hid ((Tryz.prog.info? 92).map (·.size) = some XZ.toArray.size) := Lib.hid (by rw [List.size_toArray]; exact HS1.out)
                have HTh : Hid (W.there g (kk * 12) XZ.toArray.size) := Lib.hid (by rw [List.size_toArray, HL3.out.1]; exact HX3.out.2.1)
                clear HD HBW HYes HNo HX2 hXZ
                have HD2 : Hid (DR w 92 g (W.setCells g (kk * 12) XZ) ((C ++ [x2]) ++ X.drop (kk + 1))) := Lib.hid (HSet.out ▸ HX3.out.2.2)
                have HE2 : Hid ((compT X (p + (j + 1) + 1)).length = kk + 1 ∧ compT X (p + (j + 1) + 1) = C ++ [x2]) := Lib.hid (by
                  rw [show p + (j + 1) + 1 = p + j + 1 + 1 by omega, HC2.out]
                  exact ⟨by rw [List.length_append, ← HK.out]; rfl, rfl⟩)
                clear HSet
                go_wp2_with (first
                  | refine wpList_load_mid rfl 92 (.tmp 54) rfl g (p * 12 + p2 * 12) rfl XZ _ HX3.out.1 Tryz.underlying92 rfl HS1.out ?_
                  | refine wpList_store_mid rfl 92 (.tmp 56) (.tmp 55) rfl g (kk * 12) XZ.toArray rfl rfl HTh.out HS2.out HL3.out.2 ?_)
                go_roundw
                case rel => exact ⟨j + 1, by have := HP2.out; go_num, by rw [HE2.out.1]; go_num, by omega, by rw [HE2.out.1]; omega, by rw [HE2.out.1, HE2.out.2]; exact HD2.out⟩
                case measure => have := HP2.out; simp [ivl] <;> omega
              · go_wp2_with fail
                refine wp_region_held_drew (S := fun w' => w'.rangeAt g (p * 12 + p2 * 12) XP ∧ w'.rangeAt g (p * 12 + j * 12) XQ) (by kernel_rfl) (HS.out _ (bdrew (Below.refl _ _))) (fun hHeld => ?_)
                refine tk 0 hHeld ?_
                refine tk 1 hHeld ?_
                refine tk 2 hHeld ?_
                refine tk 3 hHeld ?_
                refine tkl 4 rfl (yieldsIf_load_mid (by rfl) _ _ rfl _ _ rfl _ _ (fun _ h => h.1) Tryz.underlying92 rfl HSz.out.1) hHeld ?_
                refine tk 5 hHeld ?_
                refine tk 6 hHeld ?_
                refine tk 7 hHeld ?_
                refine tk 8 hHeld ?_
                refine tkl 9 rfl (yieldsIf_load_mid (by rfl) _ _ rfl _ _ rfl _ _ (fun _ h => h.2) Tryz.underlying92 rfl HSz.out.2) hHeld ?_
                refine rd 10 (fun K hK => ?_)
                go_simp
                refine (HCm.out _).mono ?_
                rintro e w1 ⟨rfl, b1⟩
                go_wp2_with fail
                refine hK.out _ _ (HS.out _ (bthen (bdrew (Below.refl _ _)) b1)) (fun hHeld => ?_)
                clear hK K
                refine tk 11 hHeld ?_
                refine wpAnyH_done (by kernel_rfl) ?_ _
                clear hHeld
                refine fin (fun W => Below wr.heap.size wr W) (bthen (bdrew (Below.refl _ _)) b1) ?_
                clear b1 HS HCm
                rintro W hbW
                have HBW := Lib.hid hbW
                clear hbW
                have HD2 := Lib.hid (HD.out.below HBW.out)
                have HE2 : Hid ((compT X (p + (j + 1) + 1)).length = kk ∧ compT X (p + (j + 1) + 1) = C) := Lib.hid (by
                  rw [show p + (j + 1) + 1 = p + j + 1 + 1 by omega, HYes.out (by trivial)]
                  exact ⟨HK.out.symm, rfl⟩)
                clear HD HBW HYes HNo HX2 HSet
                go_wp2
                go_roundw
                case rel => exact ⟨j + 1, by have := HP2.out; go_num, by rw [HE2.out.1], by omega, by rw [HE2.out.1]; omega, by rw [HE2.out.1, HE2.out.2]; exact HD2.out⟩
                case measure => have := HP2.out; simp [ivl] <;> omega
            · have ejn : p + j + 1 = n := by omega
              have HEn : Hid (C = compT X n) := Lib.hid (by rw [HCe.out, ejn])
              have a1 : ¬ ((j + 1 : Nat) : Int) < ((n - p : Nat) : Int) := by omega
              have k0 : (0 : Int) ≤ (kk : Int) := by omega
              have k1 : (kk : Int) ≤ (n : Int) := by omega
              have k2 : (kk : Int) ≤ (cap : Int) := by omega
              have ncap1 : ¬ cap = kk := by omega
              have ncap2 : ¬ cap = 0 := by omega
              have hTh : wr.there g (kk * 12) ((n - kk) * 12) := by
                obtain ⟨cur, hb, hl, _⟩ := HD.out.1
                rw [hZl.out] at hl
                exact blk_there hb (by omega)
              obtain ⟨zs, hzl, hcl⟩ := run_clear_rows wr 0 g (kk * 12) (n - kk) (cap - kk) (fun j hj => (hTh j hj).1) (fun j hj => (hTh j hj).2) (by omega)
              have HZs : Hid (DR w 92 g (wr.setCells g (kk * 12) zs) C) := Lib.hid (by
                have q := HD.out.1.tail cRc_len (zs := zs) (by rw [hzl, List.length_drop, HLn.out]; exact Nat.le_refl _)
                rw [← HK.out] at q
                exact ⟨q, grown_trans HD.out.2 (grown_cells _ _ _ _)⟩)
              clear hTh hzl HD HCz
              go_wp2
              go_ret
              exact ⟨kk, rfl, by rw [← HEn.out]; exact HK.out.symm, by rw [← HEn.out]; exact HZs.out⟩
      · have HE : Hid (compT X n = X) := Lib.hid (by
          have e : q + 1 = n := by omega
          rw [← e, HC.out, List.take_of_length_le (by rw [HLn.out]; omega)])
        have hlt' : ¬ ((q + 1 : Nat) : Int) < (n : Int) := by omega
        go_wp2
        go_ret
        exact ⟨n, rfl, by rw [HE.out]; exact HLn.out, by rw [HE.out]; exact HD.out⟩
def eqRc (a b : Rc) : Bool := (a.id == b.id) && (a.ms == b.ms) && (a.pp == b.pp) && (a.mt == b.mt) && (a.cl == b.cl) && (a.ly == b.ly) && ((a.x0 == b.x0) && (a.x1 == b.x1) && (a.x2 == b.x2) && ((a.x3 == b.x3) && (a.x4 == b.x4) && (a.x5 == b.x5)))
theorem eqRc_iff (a b : Rc) : eqRc a b = true ↔ a = b := by
  unfold eqRc
  constructor
  · intro h
    simp only [Bool.and_eq_true, beq_iff_eq] at h
    obtain ⟨⟨⟨⟨⟨⟨h1, h2⟩, h3⟩, h4⟩, h5⟩, h6⟩, ⟨⟨h7, h8⟩, h9⟩, ⟨h10, h11⟩, h12⟩ := h
    cases a; cases b
    simp_all
  · rintro rfl
    simp
theorem eqRc_self (a : Rc) : eqRc a a = true := (eqRc_iff a a).2 rfl
theorem eqRc_ne {a b : Rc} (h : a ≠ b) : eqRc a b = false := by
  cases e : eqRc a b with
  | false => rfl
  | true => exact absurd ((eqRc_iff a b).1 e) h
theorem eqVecR (n : Nat) (a b c d e f : Int) (w : World) : (Op.equalIn (n + 1 + 1) 48 (.agg #[.int .i64 a, .int .i64 b, .int .i64 c]) (.agg #[.int .i64 d, .int .i64 e, .int .i64 f])).run Tryz.prog w = .ok ((a == d) && (b == e) && (c == f)) w := by
  have u3 := Tryz.underlying44
  have a3 := Tryz.isAgg44
  have z3 := Tryz.sizeOf44
  rw [Op.equalIn]
  simp only [Sem.run_bind, run_underlying Tryz.underlying48, Result.andThen_ok]
  simp only [Std.Legacy.Range.forIn_eq_forIn_range', Std.Legacy.Range.size, Nat.sub_zero, Nat.add_sub_cancel, Nat.div_one, List.range'_succ, List.range'_zero, List.forIn_cons, List.forIn_nil]
  go_simp
  by_cases h0 : a = d
  · subst h0
    by_cases h1 : b = e
    · subst h1
      by_cases h2 : c = f
      · subst h2; simp
      · simp [h2]
    · simp [h1]
  · simp [h0]
theorem eqBoxR (n : Nat) (a b c d e f a' b' c' d' e' f' : Int) (w : World) : (Op.equalIn (n + 1 + 1 + 1) 50 (.agg #[.int .i64 a, .int .i64 b, .int .i64 c, .int .i64 d, .int .i64 e, .int .i64 f]) (.agg #[.int .i64 a', .int .i64 b', .int .i64 c', .int .i64 d', .int .i64 e', .int .i64 f'])).run Tryz.prog w = .ok ((a == a') && (b == b') && (c == c') && ((d == d') && (e == e') && (f == f'))) w := by
  have hv := fun x y z x' y' z' w => eqVecR n x y z x' y' z' w
  obtain ⟨p, hp⟩ : ∃ p, p = ((a == a') && (b == b') && (c == c')) := ⟨_, rfl⟩
  obtain ⟨q, hq⟩ : ∃ q, q = ((d == d') && (e == e') && (f == f')) := ⟨_, rfl⟩
  have hv1 := fun w => hv a b c a' b' c' w
  have hv2 := fun w => hv d e f d' e' f' w
  rw [← hp] at hv1
  rw [← hq] at hv2
  rw [← hp, ← hq]
  clear hp hq hv
  have a3 := Tryz.isAgg48
  have z3 := Tryz.sizeOf48
  rw [Op.equalIn]
  simp only [Sem.run_bind, run_underlying Tryz.underlying50, Result.andThen_ok]
  go_simp
  cases p <;> cases q <;> simp
set_option maxHeartbeats 4000000 in
set_option maxRecDepth 10000 in
theorem eqRcF (s t : Rc) (w : World) : (Op.equalIn 10000 92 (.agg (cRc s).toArray) (.agg (cRc t).toArray)).run Tryz.prog w = .ok (eqRc s t) w := by
  have hM : ∀ n w, (Op.equalIn (n + 1 + 1 + 1) 50 (.agg #[.int .i64 s.x0, .int .i64 s.x1, .int .i64 s.x2, .int .i64 s.x3, .int .i64 s.x4, .int .i64 s.x5]) (.agg #[.int .i64 t.x0, .int .i64 t.x1, .int .i64 t.x2, .int .i64 t.x3, .int .i64 t.x4, .int .i64 t.x5])).run Tryz.prog w = .ok ((s.x0 == t.x0) && (s.x1 == t.x1) && (s.x2 == t.x2) && ((s.x3 == t.x3) && (s.x4 == t.x4) && (s.x5 == t.x5))) w := fun n w => eqBoxR n _ _ _ _ _ _ _ _ _ _ _ _ w
  have a1 := Tryz.isAgg50
  have z1 := Tryz.sizeOf50
  have u5 := Tryz.underlying4
  have a5 := Tryz.isAgg4
  have z5 := Tryz.sizeOf4
  have u6 := Tryz.underlying81
  have a6 := Tryz.isAgg81
  have z6 := Tryz.sizeOf81
  have u7 := Tryz.underlying3
  have a7 := Tryz.isAgg3
  have z7 := Tryz.sizeOf3
  obtain ⟨eM, hE⟩ : ∃ e, e = ((s.x0 == t.x0) && (s.x1 == t.x1) && (s.x2 == t.x2) && ((s.x3 == t.x3) && (s.x4 == t.x4) && (s.x5 == t.x5))) := ⟨_, rfl⟩
  unfold eqRc
  rw [← hE] at hM ⊢
  clear hE
  unfold cRc
  rw [show (10000 : Nat) = 9996 + 1 + 1 + 1 + 1 from rfl, Op.equalIn]
  simp only [Sem.run_bind, run_underlying Tryz.underlying92, Result.andThen_ok]
  go_simp
  by_cases e0 : s.id = t.id
  · by_cases e1 : s.ms = t.ms
    · by_cases e2 : s.pp = t.pp
      · by_cases e3 : s.mt = t.mt
        · by_cases e4 : s.cl = t.cl
          · by_cases e5 : s.ly = t.ly
            · cases eM <;> simp [e0, e1, e2, e3, e4, e5]
            · simp [e0, e1, e2, e3, e4, e5]
          · simp [e0, e1, e2, e3, e4]
        · simp [e0, e1, e2, e3]
      · simp [e0, e1, e2]
    · simp [e0, e1]
  · simp [e0]
abbrev RcRow := RowX 12 cRc
theorem bs_none (W : World) : (Instr.buildSlice 85 0 #[]).run Tryz.prog W = .ok (.slice (some ⟨W.heap.size, 0, none⟩) 0 0) (W.alloc (.cells #[] 92)) := by kernel_rfl
theorem grown_below2 {w w1 w2 : World} {r : Option Nat} (h1 : Below w.heap.size w w1) (h2 : w1.grownBy w2 r) (hr : ∀ b, r = some b → w.heap.size ≤ b) : Below w.heap.size w w2 :=
  ⟨h2.os.trans h1.os, h2.tape.trans h1.tape, h2.output.trans h1.output, Nat.le_trans h1.size h2.size, fun q hq => (h2.block q (Nat.lt_of_lt_of_le hq h1.size) (fun e => by have := hr q e.symm; omega)).trans (h1.block q hq)⟩
set_option maxHeartbeats 4000000 in
set_option maxRecDepth 100000 in
theorem clone_any (av : Option Addr) (n cap : Nat) (X : List Rc) (w : World) (row : RcRow w av n X) (hn : n ≤ 1000000) :
    Calls Tryz.prog 58 #[.slice av n cap] w fun e w' => ∃ v, e = .returned v ∧ OwnX 12 cRc 92 w' w.heap.size v X ∧ Below w.heap.size w w' := by
  have HE : Hid (∀ w, (binOp .eql 85 (.slice av n cap) (.slice none 0 0)).run Tryz.prog w = .ok (.bool av.isNone) w) := Lib.hid (fun w => Lib.run_eql_slice_nil w _ _ av n cap 0 0 Tryz.underlying85)
  cases av with
  | none =>
    have h0 : n = 0 := by
      rcases row.2.2 with h | ⟨b, off, e, _⟩
      · exact h
      · cases e
    subst h0
    have hX : X = [] := List.eq_nil_of_length_eq_zero row.1
    subst hX
    clear row
    have he := HE.out
    go_enter Tryz.func58, Tryz.ntmps58
    go_wp2
    go_ret
    exact ⟨_, rfl, OwnX.nil _ _ _ _ _, Below.refl _ _⟩
  | some ad =>
    have HR := Lib.hid (row.keep (alloc_below w (.cells #[] 92)))
    have HO : Hid (OwnX 12 cRc 92 (w.alloc (.cells #[] 92)) w.heap.size (.slice (some ⟨w.heap.size, 0, none⟩) 0 0) ([] : List Rc)) := Lib.hid ⟨by simp, Or.inr ⟨w.heap.size, 0, #[], rfl, Nat.le_refl _, Blk.new _ _ _, Nat.le_refl _, Nat.zero_le _, by simp, by simp⟩⟩
    have hbs := bs_none w
    have he := HE.out
    clear row
    go_enter Tryz.func58, Tryz.ntmps58
    go_wp2_with (at_builtin; refine wpList_appendR rfl (.tmp 5) (.tmp 6) 85 96 (.agg (cRc zRc).toArray) rfl Tryz.underlying85 zRc_info rfl (by decide) (by decide) cRc_len cRc_one rfl HO.out (some ad) n cap rfl HR.out (by simp; omega) (by simp) ?_)
    intro v' W2 k1 k2 _
    have K : Hid (OwnX 12 cRc 92 W2 w.heap.size v' X ∧ Below w.heap.size w W2) := Lib.hid ⟨k1, grown_below2 (alloc_below _ _) k2 (fun b e => by simp [Value.ownBlock] at e; omega)⟩
    clear k1 k2
    go_wp2
    go_ret
    exact ⟨v', rfl, K.out⟩
theorem OwnX.mr {w : World} {t : TypeId} {base : Nat} {v : Value} {X : List Rc} (h : OwnX 12 cRc t w base v X) (hX : 0 < X.length) : ∃ g cap, v = .slice (some ⟨g, 0, none⟩) X.length cap ∧ base ≤ g ∧ X.length ≤ cap ∧ cap ≤ maxLen ∧ MR 12 cRc t w g X := by
  rcases h.2 with ⟨_, h0⟩ | ⟨g, cap, cur, hv, hb, hg, hn, hm, hs, ht⟩
  · omega
  · exact ⟨g, cap, hv, hb, hn, hm, cur.toList, by unfold Blk; rw [Array.toArray_toList]; exact hg, by have e : cur.toList.length = cur.size := rfl; have q := Nat.mul_le_mul_right 12 hn; omega, ht⟩
theorem MR.row {w : World} {t : TypeId} {g : Nat} {X : List Rc} (h : MR 12 cRc t w g X) (hX : X.length ≤ 9223372036854775807) : RcRow w (some ⟨g, 0, none⟩) X.length X :=
  ⟨rfl, hX, Or.inr ⟨g, 0, rfl, h.lt, fun i x hi => by rw [Nat.zero_add]; exact h.range cRc_len hi⟩⟩
theorem comp_zero (av : Option Addr) (cap : Nat) (fv : Value) (w : World) :
    Calls Tryz.prog 223 #[.slice av 0 cap, fv] w fun e w' => e = .returned (.slice av 0 cap) ∧ w = w' := by
  go_enter Tryz.func223, Tryz.ntmps223
  go_wp2
  go_ret
  exact ⟨rfl, rfl⟩
def minK (X : List Rc) : Nat → Rc
  | 0 => (X[0]?).getD zRc
  | k + 1 => match X[k + 1]? with
    | some x => if x.id < (minK X k).id then x else minK X k
    | none => minK X k
theorem mink_less {X : List Rc} {k : Nat} {x : Rc} (hx : X[k + 1]? = some x) (h : x.id < (minK X k).id) : minK X (k + 1) = x := by
  unfold minK
  rw [hx]
  exact if_pos h
theorem mink_stay {X : List Rc} {k : Nat} {x : Rc} (hx : X[k + 1]? = some x) (h : ¬ x.id < (minK X k).id) : minK X (k + 1) = minK X k := by
  show (match X[k + 1]? with | some x => if x.id < (minK X k).id then x else minK X k | none => minK X k) = _
  rw [hx]
  exact if_neg h
theorem splice_rc (a b : Rc) : splice (cRc a) 0 (cRc b) = cRc b := splice_all rfl
set_option maxHeartbeats 16000000 in
set_option maxRecDepth 100000 in
theorem min_any (av : Option Addr) (n cap : Nat) (X : List Rc) (w : World) (row : RcRow w av n X) (hn : n ≤ 1000000) (hpos : 0 < n) :
    Calls Tryz.prog 265 #[.slice av n cap, .func (.func 222) #[] #[]] w fun e w' => e = .returned (.agg (cRc (minK X (n - 1))).toArray) ∧ Below w.heap.size w w' := by
  have HLn := Lib.hid row.1
  obtain ⟨b, off, x0, rfl, hb, hx0, _⟩ := row.at_ hpos
  have HR : Hid (∀ W i x, Below w.heap.size w W → X[i]? = some x → W.rangeAt b (off + i * 12) (cRc x)) := Lib.hid (fun W i x hbw hx => by
    rcases row.2.2 with h | ⟨b', off', e, hb', hr⟩
    · omega
    · injection e with e; injection e with e1 e2; subst e1 e2
      exact range_same (hr i x hx) (hbw.block b hb'))
  have HM0 : Hid (minK X 0 = x0) := Lib.hid (by unfold minK; rw [hx0]; rfl)
  have HX0 := Lib.hid hx0
  have HE := enters_by
  have hE := HE
  unfold Enters at hE
  have K0 := Lib.hid (Blk.new w 92 (cRc zRc).toArray)
  have HB0 : Hid (Below w.heap.size w (w.alloc (.cells (cRc zRc).toArray 92))) := Lib.hid (alloc_below _ _)
  have n1 : ¬ (n : Int) < 1 := by omega
  clear row hb hx0 HE
  go_enter Tryz.func265, Tryz.ntmps265
  go_upto_region 1 with fail
  refine fin (fun W => Blk W w.heap.size 92 (cRc zRc).toArray ∧ Below w.heap.size w W) ⟨K0.out, HB0.out⟩ ?_
  clear K0 HB0
  rintro W0 ⟨k0, hb0⟩
  have K0 := Lib.hid k0
  have HB0 := Lib.hid hb0
  clear k0 hb0
  obtain ⟨Z, hZ⟩ : ∃ Z, Z = cRc x0 := ⟨_, rfl⟩
  have HL0 : Hid (W0.rangeAt b (off + 0 * 12) Z) := Lib.hid (hZ ▸ HR.out W0 0 x0 HB0.out HX0.out)
  have HSz : Hid ((Tryz.prog.info? 92).map (·.size) = some Z.length) := Lib.hid (hZ ▸ rc_size x0)
  have HSz' : Hid ((Tryz.prog.info? 92).map (·.size) = some Z.toArray.size) := Lib.hid (by rw [List.size_toArray]; exact HSz.out)
  have HOz : Hid (Z.toArray.all (·.oneCell') = true) := Lib.hid (hZ ▸ rc_all x0)
  have KN := Blk.new W0 92 (cRc zRc).toArray
  have HTh : Hid ((W0.alloc (.cells (cRc zRc).toArray 92)).there W0.heap.size 0 Z.toArray.size) := Lib.hid (blk_there KN (by rw [List.size_toArray, hZ]; exact Nat.le_refl 12))
  have HFin : Hid (Blk ((W0.alloc (.cells (cRc zRc).toArray 92)).setCells W0.heap.size 0 Z) w.heap.size 92 (cRc zRc).toArray ∧ Blk ((W0.alloc (.cells (cRc zRc).toArray 92)).setCells W0.heap.size 0 Z) W0.heap.size 92 (cRc (minK X 0)).toArray ∧ Below w.heap.size w ((W0.alloc (.cells (cRc zRc).toArray 92)).setCells W0.heap.size 0 Z)) := Lib.hid (by
    have hlt := K0.out.lt
    refine ⟨blk_setFar Z (K0.out.alloc _) (by omega), ?_, below_setCells Z (balloc HB0.out _) (by omega)⟩
    have := blk_setCells Z (o := 0) KN (by rw [hZ]; exact Nat.le_refl 12)
    rw [hZ, splice_rc] at this
    rw [HM0.out, hZ]
    exact this)
  have HG : Hid (w.heap.size < W0.heap.size) := Lib.hid K0.out.lt
  clear KN hZ
  rw [Nat.zero_mul] at HL0
  go_upto_region 4 with (first
    | refine wpList_load_mid rfl 92 (.tmp 12) rfl b (off + 0) rfl Z _ HL0.out Tryz.underlying92 rfl HSz.out ?_
    | refine wpList_store_mid rfl 92 (.tmp 5) (.tmp 13) rfl W0.heap.size 0 Z.toArray rfl rfl HTh.out HSz'.out HOz.out ?_)
  refine fin (fun W => Blk W w.heap.size 92 (cRc zRc).toArray ∧ Blk W W0.heap.size 92 (cRc (minK X 0)).toArray ∧ Below w.heap.size w W) HFin.out ?_
  obtain ⟨g5, hg5⟩ : ∃ g5, g5 = W0.heap.size := ⟨_, rfl⟩
  rw [← hg5] at HG ⊢
  clear HFin HTh HL0 HSz HSz' HOz K0 HB0 hg5
  rintro W1 ⟨k4, k5, hb1⟩
  have K4 := Lib.hid k4
  have K5 := Lib.hid k5
  have HB1 := Lib.hid hb1
  clear k4 k5 hb1
  go_wp2
  go_loopw [6] (fun v6 wr => ∃ k : Nat, v6 = .int .i64 ((k + 1 : Nat) : Int) ∧ k + 1 ≤ n ∧ Blk wr w.heap.size 92 (cRc zRc).toArray ∧ Blk wr g5 92 (cRc (minK X k)).toArray ∧ Below w.heap.size w wr) (fun v6 _ => n - (ivl v6).toNat)
  case atStart => exact ⟨0, rfl, by omega, K4.out, K5.out, HB1.out⟩
  case round =>
    clear K4 K5 HB1
    obtain ⟨k, rfl, hk, k4, k5, hb1⟩ := hrel
    have K4 := Lib.hid k4
    have K5 := Lib.hid k5
    have HB1 := Lib.hid hb1
    clear k4 k5 hb1
    by_cases hlt : k + 1 < n
    · have hxl := HLn.out
      obtain ⟨x, hx⟩ : ∃ x, X[k + 1]? = some x := ⟨_, List.getElem?_eq_getElem (by omega)⟩
      obtain ⟨y, hy⟩ : ∃ y, y = minK X k := ⟨_, rfl⟩
      have HLess : Hid (x.id < y.id → minK X (k + 1) = x) := Lib.hid (fun h => mink_less hx (by rw [← hy]; exact h))
      have HStay : Hid (¬ x.id < y.id → minK X (k + 1) = y) := Lib.hid (fun h => (mink_stay hx (by rw [← hy]; exact h)).trans hy.symm)
      rw [← hy] at K5
      have HS : Hid (∀ W, Below wr.heap.size wr W → W.rangeAt b (off + (k + 1) * 12) (cRc x) ∧ W.rangeAt g5 0 (cRc y)) := Lib.hid (fun W hb => ⟨HR.out W (k + 1) x (bthen HB1.out hb) hx, blk_whole (K5.out.keep hb)⟩)
      have HCm : Hid (∀ W, Calls Tryz.prog 222 #[.agg (cRc x).toArray, .agg (cRc y).toArray] W fun e w' => e = .returned (.int .i64 (cmpI x.id y.id)) ∧ Below W.heap.size W w') := Lib.hid (fun W => by_any x y W)
      have HSz : Hid (((Tryz.prog.info? 92).map (·.size) = some (cRc x).length) ∧ ((Tryz.prog.info? 92).map (·.size) = some (cRc y).length)) := Lib.hid ⟨rc_size x, rc_size y⟩
      have HCn : Hid (cmpI x.id y.id < 0 ↔ x.id < y.id) := Lib.hid cmp_neg
      have HKs : Hid (∀ W, Below wr.heap.size wr W → Blk W w.heap.size 92 (cRc zRc).toArray ∧ Blk W g5 92 (cRc y).toArray ∧ Below w.heap.size w W) := Lib.hid (fun W hb => ⟨K4.out.keep hb, K5.out.keep hb, bthen HB1.out hb⟩)
      have HSt : Hid (∀ W, Below wr.heap.size wr W → W.rangeAt b (off + (k + 1) * 12) (cRc x) ∧ W.there g5 0 12 ∧ Blk (W.setCells g5 0 (cRc x)) w.heap.size 92 (cRc zRc).toArray ∧ Blk (W.setCells g5 0 (cRc x)) g5 92 (cRc x).toArray ∧ Below w.heap.size w (W.setCells g5 0 (cRc x))) := Lib.hid (fun W hb => by
        obtain ⟨q4, q5, q6⟩ := HKs.out W hb
        refine ⟨(HS.out W hb).1, blk_there q5 (Nat.le_refl 12), blk_setFar _ q4 (by have := HG.out; omega), ?_, below_setCells _ q6 (by have := HG.out; omega)⟩
        have := blk_setCells (cRc x) (o := 0) q5 (Nat.le_refl 12)
        rw [splice_rc] at this
        exact this)
      obtain ⟨XP, hXP⟩ : ∃ XP, XP = cRc x := ⟨_, rfl⟩
      obtain ⟨XQ, hXQ⟩ : ∃ XQ, XQ = cRc y := ⟨_, rfl⟩
      have HXp := Lib.hid hXP
      have HXq := Lib.hid hXQ
      have HLp : Hid (XP.toArray.all (·.oneCell') = true ∧ XP.length = 12) := Lib.hid (by rw [hXP]; exact ⟨rc_all x, rfl⟩)
      rw [← hXP] at HCm HSz HS HSt
      rw [← hXQ] at HCm HSz HS HKs
      obtain ⟨cc, hcc⟩ : ∃ cc, cc = cmpI x.id y.id := ⟨_, rfl⟩
      rw [← hcc] at HCm HCn
      obtain ⟨p, hp⟩ : ∃ p, p = k + 1 := ⟨_, rfl⟩
      rw [← hp] at HS HSt HLess HStay hlt hk ⊢
      have p0 : (0 : Int) ≤ (p : Int) := by omega
      have p1 : (p : Int) < (n : Int) := by omega
      have HP := Lib.hid hp
      clear hXP hXQ hcc hp hx hy hxl
      go_wp2_with fail
      refine wp_region_held_drew (S := fun w' => w'.rangeAt b (off + p * 12) XP ∧ w'.rangeAt g5 0 XQ) (by kernel_rfl) (HS.out _ (bdrew (Below.refl _ _))) (fun hHeld => ?_)
      refine tk 0 hHeld ?_
      refine tk 1 hHeld ?_
      refine tk 2 hHeld ?_
      refine tk 3 hHeld ?_
      refine tkl 4 rfl (yieldsIf_load_mid (by rfl) _ _ rfl _ _ rfl _ _ (fun _ h => h.1) Tryz.underlying92 rfl HSz.out.1) hHeld ?_
      refine tkl 5 rfl (yieldsIf_load_mid (by rfl) _ _ rfl _ _ rfl _ _ (fun _ h => h.2) Tryz.underlying92 rfl HSz.out.2) hHeld ?_
      refine rd 6 (fun K hK => ?_)
      go_simp
      refine (HCm.out _).mono ?_
      rintro e w1 ⟨rfl, b1⟩
      go_wp2_with fail
      refine hK.out _ _ (HS.out _ (bthen (bdrew (Below.refl _ _)) b1)) (fun hHeld => ?_)
      clear hK K
      refine tk 7 hHeld ?_
      refine wpAnyH_done (by kernel_rfl) ?_ _
      clear hHeld
      refine fin (fun W => Below wr.heap.size wr W) (bthen (bdrew (Below.refl _ _)) b1) ?_
      clear b1 HS HCm
      rintro W hbW
      have HBW := Lib.hid hbW
      clear hbW
      by_cases hc : cc < 0
      · have HE1 := Lib.hid (HLess.out (HCn.out.1 hc))
        have HS2 := Lib.hid (HSt.out W HBW.out)
        have HTh : Hid (W.there g5 0 XP.toArray.size) := Lib.hid (by rw [List.size_toArray, HLp.out.2]; exact HS2.out.2.1)
        have HSz' : Hid ((Tryz.prog.info? 92).map (·.size) = some XP.toArray.size) := Lib.hid (by rw [List.size_toArray]; exact HSz.out.1)
        have HE2 : Hid (Blk (W.setCells g5 0 XP) g5 92 (cRc (minK X p)).toArray) := Lib.hid (by rw [HE1.out, ← HXp.out]; exact HS2.out.2.2.2.1)
        clear HSt HKs HLess HStay HE1
        go_wp2_with (first
          | refine wpList_load_mid rfl 92 (.tmp 30) rfl b (off + p * 12) rfl XP _ HS2.out.1 Tryz.underlying92 rfl HSz.out.1 ?_
          | refine wpList_store_mid rfl 92 (.tmp 5) (.tmp 31) rfl g5 0 XP.toArray rfl rfl HTh.out HSz'.out HLp.out.1 ?_)
        go_roundw
        case rel => exact ⟨p, by go_num, by omega, HS2.out.2.2.1, HE2.out, HS2.out.2.2.2.2⟩
        case measure => simp [ivl] <;> omega
      · have HE1 : Hid (minK X p = y) := Lib.hid (HStay.out (by have := HCn.out; omega))
        have HS2 := Lib.hid (HKs.out W HBW.out)
        have HE2 : Hid (Blk W g5 92 (cRc (minK X p)).toArray) := Lib.hid (by rw [HE1.out, ← HXq.out]; exact HS2.out.2.1)
        clear HSt HKs HLess HStay HE1
        go_wp2
        go_roundw
        case rel => exact ⟨p, by go_num, by omega, HS2.out.1, HE2.out, HS2.out.2.2⟩
        case measure => simp [ivl] <;> omega
    · have hlt' : ¬ ((k + 1 : Nat) : Int) < (n : Int) := by omega
      have ek : k = n - 1 := by omega
      rw [ek] at K5
      obtain ⟨y, hy⟩ : ∃ y, y = minK X (n - 1) := ⟨_, rfl⟩
      rw [← hy] at K5
      have HT4 : Hid (wr.there w.heap.size 0 12) := Lib.hid (blk_there K4.out (Nat.le_refl 12))
      have HR5 := Lib.hid (blk_whole K5.out)
      have HE4 : Hid (Blk (wr.setCells w.heap.size 0 (cRc y)) w.heap.size 92 (cRc y).toArray ∧ Below w.heap.size w (wr.setCells w.heap.size 0 (cRc y))) := Lib.hid (by
        have := blk_setCells (cRc y) (o := 0) K4.out (Nat.le_refl 12)
        rw [splice_rc] at this
        exact ⟨this, below_setCells _ HB1.out (Nat.le_refl _)⟩)
      have HSz := Lib.hid (rc_size y)
      have HOy := Lib.hid (rc_all y)
      obtain ⟨XQ, hXQ⟩ : ∃ XQ, XQ = cRc y := ⟨_, rfl⟩
      have HLq : Hid (XQ.length = 12) := Lib.hid (by rw [hXQ]; rfl)
      have HXe : Hid (XQ = cRc (minK X (n - 1))) := Lib.hid (by rw [hXQ, hy])
      rw [← hXQ] at HR5 HE4 HSz HOy
      have HSz' : Hid ((Tryz.prog.info? 92).map (·.size) = some XQ.toArray.size) := Lib.hid (by rw [List.size_toArray]; exact HSz.out)
      have HTh : Hid (wr.there w.heap.size 0 XQ.toArray.size) := Lib.hid (by show wr.there w.heap.size 0 XQ.length; rw [HLq.out]; exact HT4.out)
      clear hXQ hy ek K5 K4 HT4
      go_wp2_with (first
        | refine wpList_load_mid rfl 92 (.tmp 5) rfl g5 0 rfl XQ _ HR5.out Tryz.underlying92 rfl HSz.out ?_
        | refine wpList_store_mid rfl 92 (.tmp 4) (.tmp 32) rfl w.heap.size 0 XQ.toArray rfl rfl HTh.out HSz'.out HOy.out ?_)
      refine fin (fun W => Blk W w.heap.size 92 XQ.toArray ∧ Below w.heap.size w W) HE4.out ?_
      rintro W ⟨kr, hbf⟩
      have hl := run_loadVar_mid W w.heap.size 0 92 XQ _ (blk_whole kr) Tryz.underlying92 rfl HSz.out
      (try simp only [Act.put, List.setIfInBounds_toArray])
      exact bodyPost_ret (v := .agg XQ.toArray) (results_cell Tryz.results265 rfl hl) rfl ⟨by rw [HXe.out], hbf⟩
end Go.Proofs.YthhfcedhbfandaaGreat
