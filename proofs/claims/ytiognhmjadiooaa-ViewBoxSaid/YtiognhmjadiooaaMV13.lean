/-
  2 texts in one file, each with its own heading.
-/
import Derived.Test.YtiognhmjadiooaaMV11
import Derived.Test.YtiognhmjadiooaaMV05
import Derived.Test.YtiognhmjadiooaaMV09
import Derived.Deep.AppendLies
import Derived.Test.YtiognhmjadiooaaMV12
/-
  The sides of a box, walked: of the program and of the reference.
-/
namespace Go.Proofs.Ytiognhmjadiooaa
open Go.RowKit

theorem zPl_info : (Try.prog.info? 27).map (fun i => (i.zero, i.size, i.bytes)) = some (some (.agg #[.int .i64 0, .int .i64 0, .int .i64 0, .int .i64 0]), 4, 32) := by kernel_rfl
theorem plrow2 {W : World} {g : Nat} {t : TypeId} {P Q : Nat → Int} (k : Blk W g t (cPl P ++ cPl Q).toArray) : PlRow W (some ⟨g, 0, none⟩) 2 [P, Q] := by
  refine ⟨rfl, by omega, Or.inr ⟨g, 0, rfl, k.lt, fun i x hx => ?_⟩⟩
  match i, hx with
  | 0, hx =>
    injection hx with hx
    subst hx
    intro j v hv
    have hj : j < 4 := by have := (List.getElem?_eq_some_iff.1 hv).1; rw [cPl_len] at this; exact this
    refine blk_whole k (0 * 4 + j) v ?_ |> fun q => by simpa using q
    rw [show 0 * 4 + j = j by omega, List.getElem?_append_left (by rw [cPl_len]; exact hj)]
    exact hv
  | 1, hx =>
    injection hx with hx
    subst hx
    intro j v hv
    refine blk_whole k (1 * 4 + j) v ?_ |> fun q => by simpa using q
    rw [List.getElem?_append_right (by rw [cPl_len]; omega), cPl_len, show 1 * 4 + j - 4 = j by omega]
    exact hv
theorem bs_pl2 (P Q : Nat → Int) (W : World) : (Instr.buildSlice 22 2 #[(0, .agg #[.int .i64 (P 0), .int .i64 (P 1), .int .i64 (P 2), .int .i64 (P 3)]), (1, .agg #[.int .i64 (Q 0), .int .i64 (Q 1), .int .i64 (Q 2), .int .i64 (Q 3)])]).run Try.prog W = .ok (.slice (some ⟨W.heap.size, 0, none⟩) 2 2) (W.alloc (.cells (cPl P ++ cPl Q).toArray 27)) := by kernel_rfl
theorem wp_bs2 {op : Oper} {a : Go.Act} {w : World} {K : Go.Act → World → Prop} {Q : Exit → Go.Act → World → Prop} (t e : TypeId) (x y : Operand) (ho : op.op = .buildSlice t 2 #[(0, x), (1, y)]) (X Y : Value) (Z : List Value) (hx : a.eval x = X) (hy : a.eval y = Y)
    (hrun : ∀ W, (Instr.buildSlice t 2 #[(0, X), (1, Y)]).run Try.prog W = .ok (.slice (some ⟨W.heap.size, 0, none⟩) 2 2) (W.alloc (.cells Z.toArray e)))
    (h : K (a.put op.dst (.slice (some ⟨w.heap.size, 0, none⟩) 2 2)) (w.alloc (.cells Z.toArray e))) : op.wp Try.prog a w K Q := by
  unfold Oper.wp execOp
  simp only [ho]
  simp [hx, hy, hrun]
  exact h
theorem wp_pushN {α : Type} {k : Nat} {c : α → List Value} {t : TypeId} {op : Oper} {a : Go.Act} {w : World} {K : Go.Act → World → Prop} {Q : Exit → Go.Act → World → Prop} (ts tb : Operand) (tl : TypeId) (by_ : Nat) (z : Value)
    (ho : op.op = .call { callee := .builtin .append, args := #[ts, tb], argTypes := #[tl, tl] }) (hu : Try.prog.underlying tl = some (.slice t))
    (hinfo : (Try.prog.info? t).map (fun i => (i.zero, i.size, i.bytes)) = some (some z, k, by_)) (hzs : z.cells.size = k) (hk : 0 < k) (hby : by_ ≤ 1000) (hc : ∀ x, (c x).length = k) (Y : List α) (hone : ∀ x, ∀ u ∈ c x, u.oneCell' = true) (v : Value) (X : List α) (base : Nat)
    (hs : a.eval ts = v) (hown : OwnX k c t w base v X) (H n m : Nat) (hx : a.eval tb = .slice (some ⟨H, 0, none⟩) n m) (hn : Y.length = n) (hpos : 0 < n) (hb : Blk w H t (Y.flatMap c).toArray) (hX : X.length + n ≤ 2000) (hbs : base ≤ w.heap.size)
    (h : ∀ v' w', OwnX k c t w' base v' (X ++ Y) → w.grownBy w' v.ownBlock → (v'.ownBlock = v.ownBlock ∨ v'.ownBlock = some w.heap.size) → K (a.put op.dst v') w') : op.wp Try.prog a w K Q := by
  obtain ⟨i0, hi0, hz0, hz1, hz2⟩ := info_parts hinfo
  have hbytes : (X.length + n) * by_ ≤ 140737488355328 := by
    have : (X.length + n) * by_ ≤ 2000 * 1000 := Nat.mul_le_mul hX hby
    omega
  refine wp_append_lies w ts tb tl ho base t i0 z k by_ hu hi0 hz0 hz1 hz2 hzs hk v X.length (X.flatMap c) hs hown ⟨H, 0, none⟩ n m (Y.flatMap c) hx (by rw [flatx_len hc, hn]) (World.news_of_block hb) (fun u hu' => by
    obtain ⟨x, _, hx'⟩ := List.mem_flatMap.1 hu'
    exact hone x u hx') hpos (by unfold maxLen; omega) hbytes hbs w.heap.size rfl ?_
  intro g cap w' h1 h2 h3 _
  refine h _ w' ?_ h2 (h3.imp (fun e => e.symm) (fun e => by rw [← e]; rfl))
  unfold OwnX
  rw [List.length_append, List.flatMap_append, hn]
  exact h1
theorem neg_yes {x : Int} (h : okB x = true) (h2 : x ≠ -2147483648) : negV x = -x ∧ negE x = 0 := by
  have q := okB_iff.1 h
  have : okB (-x) = true := okB_iff.2 (by omega)
  unfold negV negE fitV fitE
  rw [if_pos h, if_pos h, if_pos this, if_pos this]
  exact ⟨rfl, rfl⟩
theorem neg_no {x : Int} (h : okB x = true) (h2 : x = -2147483648) : negV x = 0 ∧ negE x = 6 := by
  have : okB (-x) = false := okB_hi (by omega)
  unfold negV negE fitV fitE
  rw [if_pos h, if_pos h, this]
  exact ⟨rfl, rfl⟩
theorem neg_wrap {x : Int} (h : okB x = true) : IntKind.i64.wrap (-x) = -x := by
  have q := okB_iff.1 h
  exact IntWalk.i64_in _ (by omega)
theorem own_other14 {w w' : World} {v : Value} {base g : Nat} {t : TypeId} {X : List (Nat → Int)} {A : Array Value} (ho : OwnX 4 cPl 27 w base v X) (hk : w.grownBy w' v.ownBlock) (hg : g < base) (h : Blk w g t A) : Blk w' g t A :=
  h.same (hk.block g h.lt (fun e => by have := (ho.lt g e.symm).1; omega))
theorem boxE_no {B : Nat → Int} (h : okBox B = false) : boxE B = 1 ∧ boxL B = [] := by
  have e : boxE B = 1 := by unfold boxE; rw [h]; rfl
  exact ⟨e, by unfold boxL; rw [e]; rfl⟩
theorem boxE_low {B : Nat → Int} (h : okBox B = true) (h2 : lowB B = true) : boxE B = 6 ∧ boxL B = [] := by
  have e : boxE B = 6 := by unfold boxE; rw [if_pos h, if_pos h2]
  exact ⟨e, by unfold boxL; rw [e]; rfl⟩
theorem boxE_yes {B : Nat → Int} (h : okBox B = true) (h2 : lowB B = false) : boxE B = 0 ∧ boxL B = sidesTo B 3 := by
  have e : boxE B = 0 := by unfold boxE; rw [if_pos h, h2]; rfl
  exact ⟨e, by unfold boxL; rw [e]; rfl⟩
set_option maxHeartbeats 1000000 in
theorem side0 (n d : Int) (w : World) : Calls Try.prog 28 #[.int .i64 0, .int .i64 n, .int .i64 d] w fun e w' => e = .returned (.agg #[.int .i64 n, .int .i64 0, .int .i64 0, .int .i64 d]) ∧ Below w.heap.size w w' := by
  go_enter Try.func28, Try.ntmps28
  go_wp2
  exact bodyPost_ret (v := .agg #[.int .i64 n, .int .i64 0, .int .i64 0, .int .i64 d]) (by simp [results, Try.results28, go_sem]) rfl ⟨rfl, balloc (alloc_below _ _) _⟩
set_option maxHeartbeats 1000000 in
theorem side1 (n d : Int) (w : World) : Calls Try.prog 28 #[.int .i64 1, .int .i64 n, .int .i64 d] w fun e w' => e = .returned (.agg #[.int .i64 0, .int .i64 n, .int .i64 0, .int .i64 d]) ∧ Below w.heap.size w w' := by
  go_enter Try.func28, Try.ntmps28
  go_wp2
  exact bodyPost_ret (v := .agg #[.int .i64 0, .int .i64 n, .int .i64 0, .int .i64 d]) (by simp [results, Try.results28, go_sem]) rfl ⟨rfl, balloc (alloc_below _ _) _⟩
set_option maxHeartbeats 1000000 in
theorem side2 (n d : Int) (w : World) : Calls Try.prog 28 #[.int .i64 2, .int .i64 n, .int .i64 d] w fun e w' => e = .returned (.agg #[.int .i64 0, .int .i64 0, .int .i64 n, .int .i64 d]) ∧ Below w.heap.size w w' := by
  go_enter Try.func28, Try.ntmps28
  go_wp2
  exact bodyPost_ret (v := .agg #[.int .i64 0, .int .i64 0, .int .i64 n, .int .i64 d]) (by simp [results, Try.results28, go_sem]) rfl ⟨rfl, balloc (alloc_below _ _) _⟩
set_option maxHeartbeats 16000000 in
set_option maxRecDepth 10000 in
theorem rbox14_any (B : Nat → Int) (w : World) :
    Calls Try.prog 15 #[.agg #[.int .i64 (B 0), .int .i64 (B 1), .int .i64 (B 2), .int .i64 (B 3), .int .i64 (B 4), .int .i64 (B 5)]] w fun e w' => ∃ v, e = .returned (.tuple #[v, .int .i64 (boxE B)]) ∧ OwnX 4 cPl 27 w' w.heap.size v (boxL B) ∧ Below w.heap.size w w' := by
  obtain ⟨b1, hb1⟩ : ∃ b1, okBox B = b1 := ⟨_, rfl⟩
  have HB1 := Lib.hid hb1
  have HNo : Hid (b1 = false → boxE B = 1 ∧ boxL B = []) := Lib.hid (fun h => boxE_no (hb1.trans h))
  have HLow : Hid (b1 = true → ∀ k, k < 3 → B k = -2147483648 → boxE B = 6 ∧ boxL B = []) := Lib.hid (fun h k hk e => boxE_low (hb1.trans h) (low_at hk e))
  have HYes : Hid (b1 = true → B 0 ≠ -2147483648 → B 1 ≠ -2147483648 → B 2 ≠ -2147483648 → boxE B = 0 ∧ boxL B = sidesTo B 3) := Lib.hid (fun h h0 h1 h2 => boxE_yes (hb1.trans h) (low_not (fun k hk => by
    obtain rfl | rfl | rfl : k = 0 ∨ k = 1 ∨ k = 2 := by omega
    all_goals assumption)))
  have HOk : Hid (b1 = true → ∀ k, k < 3 → okB (B k) = true) := Lib.hid (fun h k hk => okBox_at (hb1.trans h) (by omega))
  obtain ⟨E, hE⟩ : ∃ E, E = boxE B := ⟨_, rfl⟩
  obtain ⟨L, hL⟩ : ∃ L, L = boxL B := ⟨_, rfl⟩
  rw [← hE, ← hL] at HNo HLow HYes ⊢
  clear hb1 hE hL
  go_enter Try.func15, Try.ntmps15
  go_wp2_with fail
  refine (rbox_b HB1.out _).mono ?_
  rintro e w1 ⟨rfl, q1⟩
  have K := Lib.hid ((Blk.new w 33 #[.int .i64 (B 0), .int .i64 (B 1), .int .i64 (B 2), .int .i64 (B 3), .int .i64 (B 4), .int .i64 (B 5)]).keep q1)
  have HBW := Lib.hid (bthen (alloc_below w (.cells #[.int .i64 (B 0), .int .i64 (B 1), .int .i64 (B 2), .int .i64 (B 3), .int .i64 (B 4), .int .i64 (B 5)] 33)) q1)
  clear q1
  have HO : Hid (OwnX 4 cPl 27 w1 (w.heap.size + 1) (.slice none 0 0) (sidesTo B 0)) := Lib.hid (OwnX.nil _ _ _ _ _)
  have HSz : Hid (w.heap.size + 1 ≤ w1.heap.size) := Lib.hid K.out.lt
  cases b1
  · replace HNo := Lib.hid (HNo.out rfl)
    go_wp2
    exact bodyPost_ret (v := .tuple #[.slice none 0 0, .int .i64 1]) (by simp [results, Try.results15, go_sem]) rfl ⟨_, by rw [HNo.out.1], by rw [HNo.out.2]; exact OwnX.nil _ _ _ _ _, HBW.out⟩
  · replace HLow := Lib.hid (HLow.out rfl)
    replace HYes := Lib.hid (HYes.out rfl)
    replace HOk := Lib.hid (HOk.out rfl)
    clear HNo
    obtain ⟨c0, c1, c2, c3, c4, c5, y⟩ := vblk K.out
    go_wp2
    clear c0 c1 c2 c3 c4 c5 y
    go_loopw [5, 6, 7, 8] (fun v i _ _ wr => ∃ (k : Nat) (q : Int), ((k = 0 ∧ q = 0) ∨ (k = 1 ∧ q = 1) ∨ (k = 2 ∧ q = 2) ∨ (k = 3 ∧ q = 3)) ∧ i = .int .i64 q ∧ OwnX 4 cPl 27 wr (w.heap.size + 1) v (sidesTo B k) ∧ Blk wr w.heap.size 33 #[.int .i64 (B 0), .int .i64 (B 1), .int .i64 (B 2), .int .i64 (B 3), .int .i64 (B 4), .int .i64 (B 5)] ∧ Below w.heap.size w wr ∧ w.heap.size + 1 ≤ wr.heap.size ∧ ∀ j, j < k → B j ≠ -2147483648) (fun _ i _ _ _ => 3 - (ivl i).toNat)
    case atStart => exact ⟨0, 0, Or.inl ⟨rfl, rfl⟩, rfl, HO.out, K.out, HBW.out, HSz.out, fun j hj => by omega⟩
    case round =>
      clear HO K HBW HSz
      obtain ⟨k, q, hkq, rfl, ho, hk, hb, hs, hj⟩ := hrel
      have HO := Lib.hid ho
      have K := Lib.hid hk
      have HBW := Lib.hid hb
      have HSz := Lib.hid hs
      have HJ := Lib.hid hj
      clear ho hk hb hs hj
      obtain ⟨c0, c1, c2, c3, c4, c5, y⟩ := vblk K.out
      rcases hkq with ⟨rfl, rfl⟩ | ⟨rfl, rfl⟩ | ⟨rfl, rfl⟩ | ⟨rfl, rfl⟩
      · by_cases x0 : B 0 = -2147483648
        · have HX := Lib.hid (HLow.out 0 (by omega) x0)
          go_wp2
          exact bodyPost_ret (v := .tuple #[.slice none 0 0, .int .i64 6]) (by simp [results, Try.results15, go_sem]) rfl ⟨_, by rw [HX.out.1], by rw [HX.out.2]; exact OwnX.nil _ _ _ _ _, HBW.out⟩
        · have HX0 := Lib.hid x0
          have hneg := neg_wrap (HOk.out 0 (by omega))
          have hbs := bs_pl2 (sideP 0 65536 (-(B 0))) (sideP 0 (-65536) (B 3))
          change ∀ W, (Instr.buildSlice 22 2 #[(0, .agg #[.int .i64 65536, .int .i64 0, .int .i64 0, .int .i64 (-(B 0))]), (1, .agg #[.int .i64 (-65536), .int .i64 0, .int .i64 0, .int .i64 (B 3)])]).run Try.prog W = _ at hbs
          go_wp2_with (at_builtin; go_loud (refine wpList_appendR rfl (.tmp 39) (.tmp 42) 22 32 (.agg #[.int .i64 0, .int .i64 0, .int .i64 0, .int .i64 0]) rfl Try.underlying22 zPl_info rfl (by decide) (by decide) cPl_len cPl_one rfl (HO.out.keep (balloc (balloc (alloc_below _ _) _) _)) (some ⟨_, 0, none⟩) 2 2 rfl (plrow2 (P := sideP 0 65536 (-(B 0))) (Q := sideP 0 (-65536) (B 3)) (blkAt (Blk.new ((wr.alloc (.cells #[.int .i64 65536, .int .i64 0, .int .i64 0, .int .i64 (-(B 0))] 27)).alloc (.cells #[.int .i64 (-65536), .int .i64 0, .int .i64 0, .int .i64 (B 3)] 27)) 27 (cPl (sideP 0 65536 (-(B 0))) ++ cPl (sideP 0 (-65536) (B 3))).toArray) (g' := wr.heap.size + 1 + 1) (by simp))) (by simp [sidesTo_len]) (Nat.le_trans HSz.out (by simp; omega)) ?_))
          intro v' W2 k1 k2 k3
          have KK : Hid (OwnX 4 cPl 27 W2 (w.heap.size + 1) v' (sidesTo B 1) ∧ Blk W2 w.heap.size 33 #[.int .i64 (B 0), .int .i64 (B 1), .int .i64 (B 2), .int .i64 (B 3), .int .i64 (B 4), .int .i64 (B 5)] ∧ Below w.heap.size w W2 ∧ w.heap.size + 1 ≤ W2.heap.size) := Lib.hid (by
            have hal := balloc (balloc (alloc_below wr (.cells #[.int .i64 65536, .int .i64 0, .int .i64 0, .int .i64 (-(B 0))] 27)) (.cells #[.int .i64 (-65536), .int .i64 0, .int .i64 0, .int .i64 (B 3)] 27)) (.cells (cPl (sideP 0 65536 (-(B 0))) ++ cPl (sideP 0 (-65536) (B 3))).toArray 27)
            exact ⟨k1, own_other14 (HO.out.keep hal) k2 (Nat.lt_succ_self _) (K.out.keep hal), grown_below2 (bthen HBW.out hal) k2 (fun b e => by have := (HO.out.lt b e).1; omega), Nat.le_trans (Nat.le_trans HSz.out hal.size) k2.size⟩)
          clear k1 k2 k3 c0 c1 c2 c3 c4 c5 y hneg hbs x0 HO HBW K HSz
          go_wp2
          go_roundw
          case rel => exact ⟨1, 1, by omega, by first | rfl | go_num, KK.out.1, KK.out.2.1, KK.out.2.2.1, KK.out.2.2.2, fun j hj => by
            by_cases e : j = 0
            · subst e; exact HX0.out
            · exact HJ.out j (by omega)⟩
          case measure => simp [ivl]
      · by_cases x1 : B 1 = -2147483648
        · have HX := Lib.hid (HLow.out 1 (by omega) x1)
          go_wp2
          exact bodyPost_ret (v := .tuple #[.slice none 0 0, .int .i64 6]) (by simp [results, Try.results15, go_sem]) rfl ⟨_, by rw [HX.out.1], by rw [HX.out.2]; exact OwnX.nil _ _ _ _ _, HBW.out⟩
        · have HX1 := Lib.hid x1
          have hneg := neg_wrap (HOk.out 1 (by omega))
          have hbs := bs_pl2 (sideP 1 65536 (-(B 1))) (sideP 1 (-65536) (B 4))
          change ∀ W, (Instr.buildSlice 22 2 #[(0, .agg #[.int .i64 0, .int .i64 65536, .int .i64 0, .int .i64 (-(B 1))]), (1, .agg #[.int .i64 0, .int .i64 (-65536), .int .i64 0, .int .i64 (B 4)])]).run Try.prog W = _ at hbs
          go_wp2_with (at_builtin; go_loud (refine wpList_appendR rfl (.tmp 39) (.tmp 42) 22 32 (.agg #[.int .i64 0, .int .i64 0, .int .i64 0, .int .i64 0]) rfl Try.underlying22 zPl_info rfl (by decide) (by decide) cPl_len cPl_one rfl (HO.out.keep (balloc (balloc (alloc_below _ _) _) _)) (some ⟨_, 0, none⟩) 2 2 rfl (plrow2 (P := sideP 1 65536 (-(B 1))) (Q := sideP 1 (-65536) (B 4)) (blkAt (Blk.new ((wr.alloc (.cells #[.int .i64 0, .int .i64 65536, .int .i64 0, .int .i64 (-(B 1))] 27)).alloc (.cells #[.int .i64 0, .int .i64 (-65536), .int .i64 0, .int .i64 (B 4)] 27)) 27 (cPl (sideP 1 65536 (-(B 1))) ++ cPl (sideP 1 (-65536) (B 4))).toArray) (g' := wr.heap.size + 1 + 1) (by simp))) (by simp [sidesTo_len]) (Nat.le_trans HSz.out (by simp; omega)) ?_))
          intro v' W2 k1 k2 k3
          have KK : Hid (OwnX 4 cPl 27 W2 (w.heap.size + 1) v' (sidesTo B 2) ∧ Blk W2 w.heap.size 33 #[.int .i64 (B 0), .int .i64 (B 1), .int .i64 (B 2), .int .i64 (B 3), .int .i64 (B 4), .int .i64 (B 5)] ∧ Below w.heap.size w W2 ∧ w.heap.size + 1 ≤ W2.heap.size) := Lib.hid (by
            have hal := balloc (balloc (alloc_below wr (.cells #[.int .i64 0, .int .i64 65536, .int .i64 0, .int .i64 (-(B 1))] 27)) (.cells #[.int .i64 0, .int .i64 (-65536), .int .i64 0, .int .i64 (B 4)] 27)) (.cells (cPl (sideP 1 65536 (-(B 1))) ++ cPl (sideP 1 (-65536) (B 4))).toArray 27)
            exact ⟨k1, own_other14 (HO.out.keep hal) k2 (Nat.lt_succ_self _) (K.out.keep hal), grown_below2 (bthen HBW.out hal) k2 (fun b e => by have := (HO.out.lt b e).1; omega), Nat.le_trans (Nat.le_trans HSz.out hal.size) k2.size⟩)
          clear k1 k2 k3 c0 c1 c2 c3 c4 c5 y hneg hbs x1 HO HBW K HSz
          go_wp2
          go_roundw
          case rel => exact ⟨2, 2, by omega, by first | rfl | go_num, KK.out.1, KK.out.2.1, KK.out.2.2.1, KK.out.2.2.2, fun j hj => by
            by_cases e : j = 1
            · subst e; exact HX1.out
            · exact HJ.out j (by omega)⟩
          case measure => simp [ivl]
      · by_cases x2 : B 2 = -2147483648
        · have HX := Lib.hid (HLow.out 2 (by omega) x2)
          go_wp2
          exact bodyPost_ret (v := .tuple #[.slice none 0 0, .int .i64 6]) (by simp [results, Try.results15, go_sem]) rfl ⟨_, by rw [HX.out.1], by rw [HX.out.2]; exact OwnX.nil _ _ _ _ _, HBW.out⟩
        · have HX2 := Lib.hid x2
          have hneg := neg_wrap (HOk.out 2 (by omega))
          have hbs := bs_pl2 (sideP 2 65536 (-(B 2))) (sideP 2 (-65536) (B 5))
          change ∀ W, (Instr.buildSlice 22 2 #[(0, .agg #[.int .i64 0, .int .i64 0, .int .i64 65536, .int .i64 (-(B 2))]), (1, .agg #[.int .i64 0, .int .i64 0, .int .i64 (-65536), .int .i64 (B 5)])]).run Try.prog W = _ at hbs
          go_wp2_with (at_builtin; go_loud (refine wpList_appendR rfl (.tmp 39) (.tmp 42) 22 32 (.agg #[.int .i64 0, .int .i64 0, .int .i64 0, .int .i64 0]) rfl Try.underlying22 zPl_info rfl (by decide) (by decide) cPl_len cPl_one rfl (HO.out.keep (balloc (balloc (alloc_below _ _) _) _)) (some ⟨_, 0, none⟩) 2 2 rfl (plrow2 (P := sideP 2 65536 (-(B 2))) (Q := sideP 2 (-65536) (B 5)) (blkAt (Blk.new ((wr.alloc (.cells #[.int .i64 0, .int .i64 0, .int .i64 65536, .int .i64 (-(B 2))] 27)).alloc (.cells #[.int .i64 0, .int .i64 0, .int .i64 (-65536), .int .i64 (B 5)] 27)) 27 (cPl (sideP 2 65536 (-(B 2))) ++ cPl (sideP 2 (-65536) (B 5))).toArray) (g' := wr.heap.size + 1 + 1) (by simp))) (by simp [sidesTo_len]) (Nat.le_trans HSz.out (by simp; omega)) ?_))
          intro v' W2 k1 k2 k3
          have KK : Hid (OwnX 4 cPl 27 W2 (w.heap.size + 1) v' (sidesTo B 3) ∧ Blk W2 w.heap.size 33 #[.int .i64 (B 0), .int .i64 (B 1), .int .i64 (B 2), .int .i64 (B 3), .int .i64 (B 4), .int .i64 (B 5)] ∧ Below w.heap.size w W2 ∧ w.heap.size + 1 ≤ W2.heap.size) := Lib.hid (by
            have hal := balloc (balloc (alloc_below wr (.cells #[.int .i64 0, .int .i64 0, .int .i64 65536, .int .i64 (-(B 2))] 27)) (.cells #[.int .i64 0, .int .i64 0, .int .i64 (-65536), .int .i64 (B 5)] 27)) (.cells (cPl (sideP 2 65536 (-(B 2))) ++ cPl (sideP 2 (-65536) (B 5))).toArray 27)
            exact ⟨k1, own_other14 (HO.out.keep hal) k2 (Nat.lt_succ_self _) (K.out.keep hal), grown_below2 (bthen HBW.out hal) k2 (fun b e => by have := (HO.out.lt b e).1; omega), Nat.le_trans (Nat.le_trans HSz.out hal.size) k2.size⟩)
          clear k1 k2 k3 c0 c1 c2 c3 c4 c5 y hneg hbs x2 HO HBW K HSz
          go_wp2
          go_roundw
          case rel => exact ⟨3, 3, by omega, by first | rfl | go_num, KK.out.1, KK.out.2.1, KK.out.2.2.1, KK.out.2.2.2, fun j hj => by
            by_cases e : j = 2
            · subst e; exact HX2.out
            · exact HJ.out j (by omega)⟩
          case measure => simp [ivl]
      · have HX := Lib.hid (HYes.out (HJ.out 0 (by omega)) (HJ.out 1 (by omega)) (HJ.out 2 (by omega)))
        go_wp2
        exact bodyPost_ret (v := .tuple #[u5, .int .i64 0]) (by simp [results, Try.results15, go_sem]) rfl ⟨_, by rw [HX.out.1], by rw [HX.out.2]; exact HO.out.low (Nat.le_succ _), HBW.out⟩
set_option maxHeartbeats 16000000 in
set_option maxRecDepth 10000 in
theorem box14_any (B : Nat → Int) (w : World) :
    Calls Try.prog 14 #[.agg #[.int .i64 (B 0), .int .i64 (B 1), .int .i64 (B 2), .int .i64 (B 3), .int .i64 (B 4), .int .i64 (B 5)]] w fun e w' => ∃ v, e = .returned (.tuple #[v, .int .i64 (boxE B)]) ∧ OwnX 4 cPl 27 w' w.heap.size v (boxL B) ∧ Below w.heap.size w w' := by
  obtain ⟨b1, hb1⟩ : ∃ b1, okBox B = b1 := ⟨_, rfl⟩
  have HB1 := Lib.hid hb1
  have HNo : Hid (b1 = false → boxE B = 1 ∧ boxL B = []) := Lib.hid (fun h => boxE_no (hb1.trans h))
  have HLow : Hid (b1 = true → ∀ k, k < 3 → B k = -2147483648 → boxE B = 6 ∧ boxL B = []) := Lib.hid (fun h k hk e => boxE_low (hb1.trans h) (low_at hk e))
  have HYes : Hid (b1 = true → B 0 ≠ -2147483648 → B 1 ≠ -2147483648 → B 2 ≠ -2147483648 → boxE B = 0 ∧ boxL B = sidesTo B 3) := Lib.hid (fun h h0 h1 h2 => boxE_yes (hb1.trans h) (low_not (fun k hk => by
    obtain rfl | rfl | rfl : k = 0 ∨ k = 1 ∨ k = 2 := by omega
    all_goals assumption)))
  have HOk : Hid (b1 = true → ∀ k, k < 3 → okB (B k) = true) := Lib.hid (fun h k hk => okBox_at (hb1.trans h) (by omega))
  obtain ⟨E, hE⟩ : ∃ E, E = boxE B := ⟨_, rfl⟩
  obtain ⟨L, hL⟩ : ∃ L, L = boxL B := ⟨_, rfl⟩
  rw [← hE, ← hL] at HNo HLow HYes ⊢
  clear hb1 hE hL
  go_enter Try.func14, Try.ntmps14
  go_wp2_with fail
  refine (shright1 HB1.out (blkAt (Blk.new _ _ _) (by simp))).mono ?_
  rintro e w1 ⟨rfl, q1⟩
  have K := Lib.hid (((Blk.new w 33 #[.int .i64 (B 0), .int .i64 (B 1), .int .i64 (B 2), .int .i64 (B 3), .int .i64 (B 4), .int .i64 (B 5)]).alloc _).keep q1)
  have HBW := Lib.hid (bthen (balloc (alloc_below w (.cells #[.int .i64 (B 0), .int .i64 (B 1), .int .i64 (B 2), .int .i64 (B 3), .int .i64 (B 4), .int .i64 (B 5)] 33)) _) q1)
  clear q1
  have HO : Hid (OwnX 4 cPl 27 w1 (w.heap.size + 1) (.slice none 0 0) (sidesTo B 0)) := Lib.hid (OwnX.nil _ _ _ _ _)
  have HSz : Hid (w.heap.size + 1 ≤ w1.heap.size) := Lib.hid K.out.lt
  cases b1
  · replace HNo := Lib.hid (HNo.out rfl)
    go_wp2
    exact bodyPost_ret (v := .tuple #[.slice none 0 0, .int .i64 1]) (by simp [results, Try.results14, go_sem]) rfl ⟨_, by rw [HNo.out.1], by rw [HNo.out.2]; exact OwnX.nil _ _ _ _ _, HBW.out⟩
  · replace HLow := Lib.hid (HLow.out rfl)
    replace HYes := Lib.hid (HYes.out rfl)
    replace HOk := Lib.hid (HOk.out rfl)
    clear HNo
    obtain ⟨c0, c1, c2, c3, c4, c5, y⟩ := vblk K.out
    go_wp2
    clear c0 c1 c2 c3 c4 c5 y
    go_loopw [4, 5, 6, 7, 8, 15] (fun v _ _ _ _ i wr => ∃ (k : Nat) (q : Int), ((k = 0 ∧ q = 0) ∨ (k = 1 ∧ q = 1) ∨ (k = 2 ∧ q = 2) ∨ (k = 3 ∧ q = 3)) ∧ i = .int .i64 q ∧ OwnX 4 cPl 27 wr (w.heap.size + 1) v (sidesTo B k) ∧ Blk wr w.heap.size 33 #[.int .i64 (B 0), .int .i64 (B 1), .int .i64 (B 2), .int .i64 (B 3), .int .i64 (B 4), .int .i64 (B 5)] ∧ Below w.heap.size w wr ∧ w.heap.size + 1 ≤ wr.heap.size ∧ ∀ j, j < k → B j ≠ -2147483648) (fun _ _ _ _ _ i _ => 3 - (ivl i).toNat)
    case atStart => exact ⟨0, 0, Or.inl ⟨rfl, rfl⟩, rfl, HO.out, K.out, HBW.out, HSz.out, fun j hj => by omega⟩
    case round =>
      clear HO K HBW HSz
      obtain ⟨k, q, hkq, rfl, ho, hk, hb, hs, hj⟩ := hrel
      have HO := Lib.hid ho
      have K := Lib.hid hk
      have HBW := Lib.hid hb
      have HSz := Lib.hid hs
      have HJ := Lib.hid hj
      clear ho hk hb hs hj
      obtain ⟨c0, c1, c2, c3, c4, c5, y⟩ := vblk K.out
      rcases hkq with ⟨rfl, rfl⟩ | ⟨rfl, rfl⟩ | ⟨rfl, rfl⟩ | ⟨rfl, rfl⟩
      · by_cases x0 : B 0 = -2147483648
        · have HX := Lib.hid (HLow.out 0 (by omega) x0)
          have hn := (neg_any (B 0))
          rw [(neg_no (HOk.out 0 (by omega)) x0).1, (neg_no (HOk.out 0 (by omega)) x0).2] at hn
          have HN := Lib.hid hn
          clear hn x0
          have i0 := idx0 (B 0) (B 1) (B 2)
          go_wp2_with fail
          refine (HN.out _).mono ?_
          rintro e w5 ⟨rfl, q5⟩
          have HB5 := Lib.hid (bthen HBW.out q5)
          clear q5 c0 c1 c2 c3 c4 c5 y i0
          go_wp2
          exact bodyPost_ret (v := .tuple #[.slice none 0 0, .int .i64 6]) (by simp [results, Try.results14, go_sem]) rfl ⟨_, by rw [HX.out.1], by rw [HX.out.2]; exact OwnX.nil _ _ _ _ _, HB5.out⟩
        · have HX0 := Lib.hid x0
          have hn := (neg_any (B 0))
          rw [(neg_yes (HOk.out 0 (by omega)) x0).1, (neg_yes (HOk.out 0 (by omega)) x0).2] at hn
          have HN := Lib.hid hn
          clear hn x0
          have i0 := idx0 (B 0) (B 1) (B 2)
          go_wp2_with fail
          refine (HN.out _).mono ?_
          rintro e w5 ⟨rfl, q5⟩
          have K5 := Lib.hid (K.out.keep q5)
          have HB5 := Lib.hid (bthen HBW.out q5)
          have HO5 := Lib.hid (HO.out.keep q5)
          have HS5 := Lib.hid (Nat.le_trans HSz.out q5.size)
          clear q5 c0 c1 c2 c3 c4 c5 y i0 HO HBW K HSz HN
          go_wp2
          have HS : Hid (∀ w', Below w5.heap.size w5 w' → w'.cell? ⟨w.heap.size, 3, none⟩ = some (.int .i64 (B 3))) := Lib.hid (fun w' hb => (K5.out.keep hb).cell 3)
          refine wp_region_held_drew (S := (fun w' => w'.cell? ⟨w.heap.size, 3, none⟩ = some (.int .i64 (B 3)))) (by kernel_rfl) (HS.out _ (bdrewn (Below.refl _ _))) (fun hHeld => ?_)
          refine tk 0 hHeld ?_
          refine tk 1 hHeld ?_
          refine tk 2 hHeld ?_
          refine tk 4 hHeld ?_
          refine tk 5 hHeld ?_
          refine tk 6 hHeld ?_
          refine tk 7 hHeld ?_
          refine tk 8 hHeld ?_
          refine rd 3 (fun K hK => ?_)
          go_simp
          go_at_call 28
          refine (side0 65536 (-(B 0)) _).mono ?_
          rintro e w6 ⟨rfl, q6⟩
          go_wp2_with fail
          refine hK.out _ _ (HS.out _ (bdrew q6)) (fun hHeld => ?_)
          clear hK K
          refine rd 9 (fun K hK => ?_)
          go_simp
          go_at_call 28
          refine (side0 (-65536) (B 3) _).mono ?_
          rintro e w7 ⟨rfl, q7⟩
          have q8 := bthen (bdrew q6) q7
          go_wp2_with fail
          refine hK.out _ _ (HS.out _ q8) (fun hHeld => ?_)
          clear hK K
          have K8 := Lib.hid (K5.out.keep q8)
          have HB8 := Lib.hid (bthen HB5.out q8)
          have HO8 := Lib.hid (HO5.out.keep q8)
          have HS8 := Lib.hid (Nat.le_trans HS5.out q8.size)
          clear q6 q7 q8 K5 HB5 HO5 HS5
          refine rd 10 (fun K hK => ?_)
          rw [if_pos (by rfl)]
          refine wp_bs2 22 27 (.tmp 30) (.tmp 36) rfl (.agg #[.int .i64 65536, .int .i64 0, .int .i64 0, .int .i64 (-(B 0))]) (.agg #[.int .i64 (-65536), .int .i64 0, .int .i64 0, .int .i64 (B 3)]) (cPl (sideP 0 65536 (-(B 0))) ++ cPl (sideP 0 (-65536) (B 3))) rfl rfl (bs_pl2 (sideP 0 65536 (-(B 0))) (sideP 0 (-65536) (B 3))) ?_
          refine hK.out _ _ ((K8.out.keep (alloc_below _ _)).cell 3) (fun hHeld => ?_)
          clear hK K
          refine rd 11 (fun K hK => ?_)
          rw [if_pos (by rfl)]
          refine wp_pushN (.tmp 27) (.tmp 37) 22 32 (.agg #[.int .i64 0, .int .i64 0, .int .i64 0, .int .i64 0]) rfl Try.underlying22 zPl_info rfl (by decide) (by decide) cPl_len [sideP 0 65536 (-(B 0)), sideP 0 (-65536) (B 3)] cPl_one _ (sidesTo B 0) (w.heap.size + 1) rfl (HO8.out.keep (alloc_below _ _)) w7.heap.size 2 2 rfl rfl (by decide) (by simpa using Blk.new w7 27 (cPl (sideP 0 65536 (-(B 0))) ++ cPl (sideP 0 (-65536) (B 3))).toArray) (by simp [sidesTo_len]) (Nat.le_trans HS8.out (by simp)) ?_
          intro v' W2 k1 k2 k3
          have KK : Hid (OwnX 4 cPl 27 W2 (w.heap.size + 1) v' (sidesTo B 1) ∧ Blk W2 w.heap.size 33 #[.int .i64 (B 0), .int .i64 (B 1), .int .i64 (B 2), .int .i64 (B 3), .int .i64 (B 4), .int .i64 (B 5)] ∧ Below w.heap.size w W2 ∧ w.heap.size + 1 ≤ W2.heap.size) := Lib.hid (by
            have hal := alloc_below w7 (.cells (cPl (sideP 0 65536 (-(B 0))) ++ cPl (sideP 0 (-65536) (B 3))).toArray 27)
            exact ⟨k1, own_other14 (HO8.out.keep hal) k2 (Nat.lt_succ_self _) (K8.out.keep hal), grown_below2 (bthen HB8.out hal) k2 (fun b e => by have := (HO8.out.lt b e).1; omega), Nat.le_trans (Nat.le_trans HS8.out hal.size) k2.size⟩)
          clear k1 k2 k3 K8 HB8 HO8 HS8
          refine hK.out _ _ (KK.out.2.1.cell 3) (fun hHeld => ?_)
          clear hK K
          refine tk 12 hHeld ?_
          refine wpAnyH_done (by kernel_rfl) ?_ _
          clear HS hHeld
          go_wp2
          go_roundw
          case rel => exact ⟨1, 1, by omega, by first | rfl | go_num, KK.out.1, KK.out.2.1, KK.out.2.2.1, KK.out.2.2.2, fun j hj => by
            by_cases e : j = 0
            · subst e; exact HX0.out
            · exact HJ.out j (by omega)⟩
          case measure => simp [ivl]
      · by_cases x1 : B 1 = -2147483648
        · have HX := Lib.hid (HLow.out 1 (by omega) x1)
          have hn := (neg_any (B 1))
          rw [(neg_no (HOk.out 1 (by omega)) x1).1, (neg_no (HOk.out 1 (by omega)) x1).2] at hn
          have HN := Lib.hid hn
          clear hn x1
          have i1 := idx1 (B 0) (B 1) (B 2)
          go_wp2_with fail
          refine (HN.out _).mono ?_
          rintro e w5 ⟨rfl, q5⟩
          have HB5 := Lib.hid (bthen HBW.out q5)
          clear q5 c0 c1 c2 c3 c4 c5 y i1
          go_wp2
          exact bodyPost_ret (v := .tuple #[.slice none 0 0, .int .i64 6]) (by simp [results, Try.results14, go_sem]) rfl ⟨_, by rw [HX.out.1], by rw [HX.out.2]; exact OwnX.nil _ _ _ _ _, HB5.out⟩
        · have HX1 := Lib.hid x1
          have hn := (neg_any (B 1))
          rw [(neg_yes (HOk.out 1 (by omega)) x1).1, (neg_yes (HOk.out 1 (by omega)) x1).2] at hn
          have HN := Lib.hid hn
          clear hn x1
          have i1 := idx1 (B 0) (B 1) (B 2)
          go_wp2_with fail
          refine (HN.out _).mono ?_
          rintro e w5 ⟨rfl, q5⟩
          have K5 := Lib.hid (K.out.keep q5)
          have HB5 := Lib.hid (bthen HBW.out q5)
          have HO5 := Lib.hid (HO.out.keep q5)
          have HS5 := Lib.hid (Nat.le_trans HSz.out q5.size)
          clear q5 c0 c1 c2 c3 c4 c5 y i1 HO HBW K HSz HN
          go_wp2
          have HS : Hid (∀ w', Below w5.heap.size w5 w' → w'.cell? ⟨w.heap.size, 4, none⟩ = some (.int .i64 (B 4))) := Lib.hid (fun w' hb => (K5.out.keep hb).cell 4)
          refine wp_region_held_drew (S := (fun w' => w'.cell? ⟨w.heap.size, 4, none⟩ = some (.int .i64 (B 4)))) (by kernel_rfl) (HS.out _ (bdrewn (Below.refl _ _))) (fun hHeld => ?_)
          refine tk 0 hHeld ?_
          refine tk 1 hHeld ?_
          refine tk 2 hHeld ?_
          refine tk 4 hHeld ?_
          refine tk 5 hHeld ?_
          refine tk 6 hHeld ?_
          refine tk 7 hHeld ?_
          refine tk 8 hHeld ?_
          refine rd 3 (fun K hK => ?_)
          go_simp
          go_at_call 28
          refine (side1 65536 (-(B 1)) _).mono ?_
          rintro e w6 ⟨rfl, q6⟩
          go_wp2_with fail
          refine hK.out _ _ (HS.out _ (bdrew q6)) (fun hHeld => ?_)
          clear hK K
          refine rd 9 (fun K hK => ?_)
          go_simp
          go_at_call 28
          refine (side1 (-65536) (B 4) _).mono ?_
          rintro e w7 ⟨rfl, q7⟩
          have q8 := bthen (bdrew q6) q7
          go_wp2_with fail
          refine hK.out _ _ (HS.out _ q8) (fun hHeld => ?_)
          clear hK K
          have K8 := Lib.hid (K5.out.keep q8)
          have HB8 := Lib.hid (bthen HB5.out q8)
          have HO8 := Lib.hid (HO5.out.keep q8)
          have HS8 := Lib.hid (Nat.le_trans HS5.out q8.size)
          clear q6 q7 q8 K5 HB5 HO5 HS5
          refine rd 10 (fun K hK => ?_)
          rw [if_pos (by rfl)]
          refine wp_bs2 22 27 (.tmp 30) (.tmp 36) rfl (.agg #[.int .i64 0, .int .i64 65536, .int .i64 0, .int .i64 (-(B 1))]) (.agg #[.int .i64 0, .int .i64 (-65536), .int .i64 0, .int .i64 (B 4)]) (cPl (sideP 1 65536 (-(B 1))) ++ cPl (sideP 1 (-65536) (B 4))) rfl rfl (bs_pl2 (sideP 1 65536 (-(B 1))) (sideP 1 (-65536) (B 4))) ?_
          refine hK.out _ _ ((K8.out.keep (alloc_below _ _)).cell 4) (fun hHeld => ?_)
          clear hK K
          refine rd 11 (fun K hK => ?_)
          rw [if_pos (by rfl)]
          refine wp_pushN (.tmp 27) (.tmp 37) 22 32 (.agg #[.int .i64 0, .int .i64 0, .int .i64 0, .int .i64 0]) rfl Try.underlying22 zPl_info rfl (by decide) (by decide) cPl_len [sideP 1 65536 (-(B 1)), sideP 1 (-65536) (B 4)] cPl_one _ (sidesTo B 1) (w.heap.size + 1) rfl (HO8.out.keep (alloc_below _ _)) w7.heap.size 2 2 rfl rfl (by decide) (by simpa using Blk.new w7 27 (cPl (sideP 1 65536 (-(B 1))) ++ cPl (sideP 1 (-65536) (B 4))).toArray) (by simp [sidesTo_len]) (Nat.le_trans HS8.out (by simp)) ?_
          intro v' W2 k1 k2 k3
          have KK : Hid (OwnX 4 cPl 27 W2 (w.heap.size + 1) v' (sidesTo B 2) ∧ Blk W2 w.heap.size 33 #[.int .i64 (B 0), .int .i64 (B 1), .int .i64 (B 2), .int .i64 (B 3), .int .i64 (B 4), .int .i64 (B 5)] ∧ Below w.heap.size w W2 ∧ w.heap.size + 1 ≤ W2.heap.size) := Lib.hid (by
            have hal := alloc_below w7 (.cells (cPl (sideP 1 65536 (-(B 1))) ++ cPl (sideP 1 (-65536) (B 4))).toArray 27)
            exact ⟨k1, own_other14 (HO8.out.keep hal) k2 (Nat.lt_succ_self _) (K8.out.keep hal), grown_below2 (bthen HB8.out hal) k2 (fun b e => by have := (HO8.out.lt b e).1; omega), Nat.le_trans (Nat.le_trans HS8.out hal.size) k2.size⟩)
          clear k1 k2 k3 K8 HB8 HO8 HS8
          refine hK.out _ _ (KK.out.2.1.cell 4) (fun hHeld => ?_)
          clear hK K
          refine tk 12 hHeld ?_
          refine wpAnyH_done (by kernel_rfl) ?_ _
          clear HS hHeld
          go_wp2
          go_roundw
          case rel => exact ⟨2, 2, by omega, by first | rfl | go_num, KK.out.1, KK.out.2.1, KK.out.2.2.1, KK.out.2.2.2, fun j hj => by
            by_cases e : j = 1
            · subst e; exact HX1.out
            · exact HJ.out j (by omega)⟩
          case measure => simp [ivl]
      · by_cases x2 : B 2 = -2147483648
        · have HX := Lib.hid (HLow.out 2 (by omega) x2)
          have hn := (neg_any (B 2))
          rw [(neg_no (HOk.out 2 (by omega)) x2).1, (neg_no (HOk.out 2 (by omega)) x2).2] at hn
          have HN := Lib.hid hn
          clear hn x2
          have i2 := idx2 (B 0) (B 1) (B 2)
          go_wp2_with fail
          refine (HN.out _).mono ?_
          rintro e w5 ⟨rfl, q5⟩
          have HB5 := Lib.hid (bthen HBW.out q5)
          clear q5 c0 c1 c2 c3 c4 c5 y i2
          go_wp2
          exact bodyPost_ret (v := .tuple #[.slice none 0 0, .int .i64 6]) (by simp [results, Try.results14, go_sem]) rfl ⟨_, by rw [HX.out.1], by rw [HX.out.2]; exact OwnX.nil _ _ _ _ _, HB5.out⟩
        · have HX2 := Lib.hid x2
          have hn := (neg_any (B 2))
          rw [(neg_yes (HOk.out 2 (by omega)) x2).1, (neg_yes (HOk.out 2 (by omega)) x2).2] at hn
          have HN := Lib.hid hn
          clear hn x2
          have i2 := idx2 (B 0) (B 1) (B 2)
          go_wp2_with fail
          refine (HN.out _).mono ?_
          rintro e w5 ⟨rfl, q5⟩
          have K5 := Lib.hid (K.out.keep q5)
          have HB5 := Lib.hid (bthen HBW.out q5)
          have HO5 := Lib.hid (HO.out.keep q5)
          have HS5 := Lib.hid (Nat.le_trans HSz.out q5.size)
          clear q5 c0 c1 c2 c3 c4 c5 y i2 HO HBW K HSz HN
          go_wp2
          have HS : Hid (∀ w', Below w5.heap.size w5 w' → w'.cell? ⟨w.heap.size, 5, none⟩ = some (.int .i64 (B 5))) := Lib.hid (fun w' hb => (K5.out.keep hb).cell 5)
          refine wp_region_held_drew (S := (fun w' => w'.cell? ⟨w.heap.size, 5, none⟩ = some (.int .i64 (B 5)))) (by kernel_rfl) (HS.out _ (bdrewn (Below.refl _ _))) (fun hHeld => ?_)
          refine tk 0 hHeld ?_
          refine tk 1 hHeld ?_
          refine tk 2 hHeld ?_
          refine tk 4 hHeld ?_
          refine tk 5 hHeld ?_
          refine tk 6 hHeld ?_
          refine tk 7 hHeld ?_
          refine tk 8 hHeld ?_
          refine rd 3 (fun K hK => ?_)
          go_simp
          go_at_call 28
          refine (side2 65536 (-(B 2)) _).mono ?_
          rintro e w6 ⟨rfl, q6⟩
          go_wp2_with fail
          refine hK.out _ _ (HS.out _ (bdrew q6)) (fun hHeld => ?_)
          clear hK K
          refine rd 9 (fun K hK => ?_)
          go_simp
          go_at_call 28
          refine (side2 (-65536) (B 5) _).mono ?_
          rintro e w7 ⟨rfl, q7⟩
          have q8 := bthen (bdrew q6) q7
          go_wp2_with fail
          refine hK.out _ _ (HS.out _ q8) (fun hHeld => ?_)
          clear hK K
          have K8 := Lib.hid (K5.out.keep q8)
          have HB8 := Lib.hid (bthen HB5.out q8)
          have HO8 := Lib.hid (HO5.out.keep q8)
          have HS8 := Lib.hid (Nat.le_trans HS5.out q8.size)
          clear q6 q7 q8 K5 HB5 HO5 HS5
          refine rd 10 (fun K hK => ?_)
          rw [if_pos (by rfl)]
          refine wp_bs2 22 27 (.tmp 30) (.tmp 36) rfl (.agg #[.int .i64 0, .int .i64 0, .int .i64 65536, .int .i64 (-(B 2))]) (.agg #[.int .i64 0, .int .i64 0, .int .i64 (-65536), .int .i64 (B 5)]) (cPl (sideP 2 65536 (-(B 2))) ++ cPl (sideP 2 (-65536) (B 5))) rfl rfl (bs_pl2 (sideP 2 65536 (-(B 2))) (sideP 2 (-65536) (B 5))) ?_
          refine hK.out _ _ ((K8.out.keep (alloc_below _ _)).cell 5) (fun hHeld => ?_)
          clear hK K
          refine rd 11 (fun K hK => ?_)
          rw [if_pos (by rfl)]
          refine wp_pushN (.tmp 27) (.tmp 37) 22 32 (.agg #[.int .i64 0, .int .i64 0, .int .i64 0, .int .i64 0]) rfl Try.underlying22 zPl_info rfl (by decide) (by decide) cPl_len [sideP 2 65536 (-(B 2)), sideP 2 (-65536) (B 5)] cPl_one _ (sidesTo B 2) (w.heap.size + 1) rfl (HO8.out.keep (alloc_below _ _)) w7.heap.size 2 2 rfl rfl (by decide) (by simpa using Blk.new w7 27 (cPl (sideP 2 65536 (-(B 2))) ++ cPl (sideP 2 (-65536) (B 5))).toArray) (by simp [sidesTo_len]) (Nat.le_trans HS8.out (by simp)) ?_
          intro v' W2 k1 k2 k3
          have KK : Hid (OwnX 4 cPl 27 W2 (w.heap.size + 1) v' (sidesTo B 3) ∧ Blk W2 w.heap.size 33 #[.int .i64 (B 0), .int .i64 (B 1), .int .i64 (B 2), .int .i64 (B 3), .int .i64 (B 4), .int .i64 (B 5)] ∧ Below w.heap.size w W2 ∧ w.heap.size + 1 ≤ W2.heap.size) := Lib.hid (by
            have hal := alloc_below w7 (.cells (cPl (sideP 2 65536 (-(B 2))) ++ cPl (sideP 2 (-65536) (B 5))).toArray 27)
            exact ⟨k1, own_other14 (HO8.out.keep hal) k2 (Nat.lt_succ_self _) (K8.out.keep hal), grown_below2 (bthen HB8.out hal) k2 (fun b e => by have := (HO8.out.lt b e).1; omega), Nat.le_trans (Nat.le_trans HS8.out hal.size) k2.size⟩)
          clear k1 k2 k3 K8 HB8 HO8 HS8
          refine hK.out _ _ (KK.out.2.1.cell 5) (fun hHeld => ?_)
          clear hK K
          refine tk 12 hHeld ?_
          refine wpAnyH_done (by kernel_rfl) ?_ _
          clear HS hHeld
          go_wp2
          go_roundw
          case rel => exact ⟨3, 3, by omega, by first | rfl | go_num, KK.out.1, KK.out.2.1, KK.out.2.2.1, KK.out.2.2.2, fun j hj => by
            by_cases e : j = 2
            · subst e; exact HX2.out
            · exact HJ.out j (by omega)⟩
          case measure => simp [ivl]
      · have HX := Lib.hid (HYes.out (HJ.out 0 (by omega)) (HJ.out 1 (by omega)) (HJ.out 2 (by omega)))
        go_wp2
        exact bodyPost_ret (v := .tuple #[u4, .int .i64 0]) (by simp [results, Try.results14, go_sem]) rfl ⟨_, by rw [HX.out.1], by rw [HX.out.2]; exact HO.out.low (Nat.le_succ _), HBW.out⟩
theorem own_pl {w : World} {t : TypeId} {base : Nat} {v : Value} {X : List (Nat → Int)} (h : OwnX 4 cPl t w base v X) (hX : 0 < X.length) : ∃ g cap, v = .slice (some ⟨g, 0, none⟩) X.length cap ∧ X.length ≤ cap ∧ base ≤ g ∧ PlRow w (some ⟨g, 0, none⟩) X.length X ∧ ∀ i x, X[i]? = some x → w.rangeAt g (i * 4) (cPl x) := by
  obtain ⟨a, cap, e, h1, h2, h3⟩ := h.row cPl_len
  rcases h.2 with ⟨rfl, h0⟩ | ⟨g, cap', cur, hv, hb, _⟩
  · omega
  · rw [hv] at e
    injection e with e1 e2 e3
    subst e1
    refine ⟨g, cap', hv, by omega, hb, h3, fun i x hx => ?_⟩
    rcases h3.2.2 with h4 | ⟨b, off, e, _, hr⟩
    · omega
    · injection e with e
      injection e with e4 e5
      subst e4
      subst e5
      have := hr i x hx
      rwa [Nat.zero_add] at this
def B14 (i : Nat) : Int := if i < 3 then 0 else 196608
def E14 (i : Nat) : Int := if i = 2 then 65536 else if i = 3 then 7 else 0
def R14 : Nat → Int
  | 0 => 65536
  | 1 => 65536
  | 2 => 5
  | 3 => 589824
  | 4 => 65536
  | _ => 6
theorem b14 : boxE B14 = 0 ∧ boxL B14 = sidesTo B14 3 := boxE_yes (by decide +kernel) (by decide +kernel)
theorem s14a : seeT ⟨sidesTo B14 3, E14, 2⟩ 3 R14 = (12, true, 0) := by decide +kernel
theorem s14b : seeT ⟨sidesTo B14 3, E14, 2⟩ 1 R14 = (0, false, 0) := by decide +kernel
theorem o14 : okVw ⟨sidesTo B14 3, E14, 2⟩ = true := by decide +kernel
theorem pl_keepN {w w' : World} {g o n c : Nat} {X : List (Nat → Int)} (h : PlRow w (some ⟨g, o, none⟩) c X) (hg : g < n) (hb : Below n w w') : PlRow w' (some ⟨g, o, none⟩) c X :=
  ⟨h.1, h.2.1, h.2.2.imp id (fun ⟨b, off, e, hl, hr⟩ => ⟨b, off, e, Nat.lt_of_lt_of_le hl hb.size, fun i x hx => range_same (hr i x hx) (by injection e with e; injection e with e1; rw [← e1]; exact hb.block g hg)⟩)⟩
set_option maxHeartbeats 8000000 in
set_option maxRecDepth 10000 in
theorem alive14_any (w : World) : Calls Try.prog 6 #[] w fun e w' => e = .returned (.bool true) ∧ Below w.heap.size w w' := by
  have HBx : Hid (∀ w, Calls Try.prog 14 #[.agg #[.int .i64 0, .int .i64 0, .int .i64 0, .int .i64 196608, .int .i64 196608, .int .i64 196608]] w fun e w' => ∃ g cap, e = .returned (.tuple #[.slice (some ⟨g, 0, none⟩) 6 cap, .int .i64 0]) ∧ 6 ≤ cap ∧ PlRow w' (some ⟨g, 0, none⟩) 6 (sidesTo B14 3) ∧ (w'.cell? ⟨g, 4, none⟩ = some (.int .i64 (-65536)) ∧ w'.cell? ⟨g, 7, none⟩ = some (.int .i64 196608) ∧ g < w'.heap.size) ∧ Below w.heap.size w w') := Lib.hid (fun w => by
    refine (box14_any B14 w).mono ?_
    rintro e w' ⟨v, he, ho, hb⟩
    rw [b14.1] at he
    rw [b14.2] at ho
    obtain ⟨g, cap, rfl, h1, _, h3, h4⟩ := own_pl ho (by decide)
    have h5 := h4 1 (sideP 0 (-65536) 196608) rfl
    exact ⟨g, cap, he, h1, h3, ⟨h5 0 _ rfl, h5 3 _ rfl, (ho.lt g rfl).2⟩, hb⟩)
  have HS1 : Hid (∀ g cap w, PlRow w (some ⟨g, 0, none⟩) 6 (sidesTo B14 3) → Calls Try.prog 7 #[.agg #[.slice (some ⟨g, 0, none⟩) 6 cap, .int .i64 0, .int .i64 0, .int .i64 65536, .int .i64 7, .int .i64 2], .agg #[.int .i64 0, .int .i64 0, .int .i64 0, .int .i64 0, .bool false, .int .i64 3, .int .i64 65536, .int .i64 65536, .int .i64 5, .int .i64 589824, .int .i64 65536, .int .i64 6]] w fun e w' => e = .returned (.tuple #[.int .i64 12, .bool true, .int .i64 0]) ∧ Below w.heap.size w w') := Lib.hid (fun g cap w row => by
    have q := sees_any (some ⟨g, 0, none⟩) 6 cap (sidesTo B14 3) E14 2 (.int .i64 0) (.int .i64 0) (.int .i64 0) (.int .i64 0) (.bool false) 3 R14 w row
    rw [s14a] at q
    exact q)
  have HS2 : Hid (∀ g cap w, PlRow w (some ⟨g, 0, none⟩) 6 (sidesTo B14 3) → Calls Try.prog 7 #[.agg #[.slice (some ⟨g, 0, none⟩) 6 cap, .int .i64 0, .int .i64 0, .int .i64 65536, .int .i64 7, .int .i64 2], .agg #[.int .i64 0, .int .i64 0, .int .i64 0, .int .i64 0, .bool false, .int .i64 1, .int .i64 65536, .int .i64 65536, .int .i64 5, .int .i64 589824, .int .i64 65536, .int .i64 6]] w fun e w' => e = .returned (.tuple #[.int .i64 0, .bool false, .int .i64 0]) ∧ Below w.heap.size w w') := Lib.hid (fun g cap w row => by
    have q := sees_any (some ⟨g, 0, none⟩) 6 cap (sidesTo B14 3) E14 2 (.int .i64 0) (.int .i64 0) (.int .i64 0) (.int .i64 0) (.bool false) 1 R14 w row
    rw [s14b] at q
    exact q)
  have HRt : Hid (∀ g cap w, PlRow w (some ⟨g, 0, none⟩) 6 (sidesTo B14 3) → Calls Try.prog 10 #[.agg #[.slice (some ⟨g, 0, none⟩) 6 cap, .int .i64 0, .int .i64 0, .int .i64 65536, .int .i64 7, .int .i64 2]] w fun e w' => e = .returned (.bool true) ∧ Below w.heap.size w w') := Lib.hid (fun g cap w row => by
    have q := viwright_any (some ⟨g, 0, none⟩) 6 cap (sidesTo B14 3) E14 2 w row
    rw [o14] at q
    exact q)
  obtain ⟨X, hX⟩ : ∃ X, X = sidesTo B14 3 := ⟨_, rfl⟩
  rw [← hX] at HBx HS1 HS2 HRt
  clear hX
  go_enter Try.func6, Try.ntmps6
  go_wp2_with fail
  refine (HBx.out _).mono ?_
  rintro e w1 ⟨g, cap, rfl, hcap, hrow, hcs, hb⟩
  have HRow := Lib.hid hrow
  have HCs := Lib.hid hcs
  have HB1 := Lib.hid (bthen (alloc_below w (.cells #[.int .i64 0, .int .i64 0, .int .i64 0, .int .i64 196608, .int .i64 196608, .int .i64 196608] 33)) hb)
  clear hrow hcs hb HBx
  go_wp2_with fail
  have hal := balloc (alloc_below w1 (.cells #[.slice (some ⟨g, 0, none⟩) 6 cap, .int .i64 0, .int .i64 0, .int .i64 65536, .int .i64 7, .int .i64 2] 29)) (.cells #[.int .i64 0, .int .i64 0, .int .i64 0, .int .i64 0, .bool false, .int .i64 3, .int .i64 65536, .int .i64 65536, .int .i64 5, .int .i64 589824, .int .i64 65536, .int .i64 6] 35)
  refine (HS1.out g cap _ (HRow.out.keep hal)).mono ?_
  rintro e w2 ⟨rfl, hb⟩
  have K4 := Lib.hid (((Blk.new w1 29 #[.slice (some ⟨g, 0, none⟩) 6 cap, .int .i64 0, .int .i64 0, .int .i64 65536, .int .i64 7, .int .i64 2]).alloc (.cells #[.int .i64 0, .int .i64 0, .int .i64 0, .int .i64 0, .bool false, .int .i64 3, .int .i64 65536, .int .i64 65536, .int .i64 5, .int .i64 589824, .int .i64 65536, .int .i64 6] 35)).keep hb)
  have K5 := Lib.hid (blkAt ((Blk.new (w1.alloc (.cells #[.slice (some ⟨g, 0, none⟩) 6 cap, .int .i64 0, .int .i64 0, .int .i64 65536, .int .i64 7, .int .i64 2] 29)) 35 #[.int .i64 0, .int .i64 0, .int .i64 0, .int .i64 0, .bool false, .int .i64 3, .int .i64 65536, .int .i64 65536, .int .i64 5, .int .i64 589824, .int .i64 65536, .int .i64 6]).keep hb) (g' := w1.heap.size + 1) (by simp))
  have hal2 := bthen hal hb
  have HRow2 := Lib.hid (HRow.out.keep hal2)
  have HB2 := Lib.hid (bthen HB1.out hal2)
  have HC2 : Hid (w2.cell? ⟨g, 4, none⟩ = some (.int .i64 (-65536)) ∧ w2.cell? ⟨g, 7, none⟩ = some (.int .i64 196608) ∧ g < w2.heap.size) := Lib.hid ⟨cell_keep HCs.out.1 hal2, cell_keep HCs.out.2.1 hal2, Nat.lt_of_lt_of_le HCs.out.2.2 hal2.size⟩
  have HGl := Lib.hid HCs.out.2.2
  have HB1s := Lib.hid HB1.out.size
  clear hal hal2 hb HRow HB1 HCs HS1
  have x5 := K5.out.cell 5
  have y5 := K5.out.frozen 5
  have z5 := K5.out.lt
  go_upto_region 7 with fail
  refine fin (fun W => PlRow W (some ⟨g, 0, none⟩) 6 X ∧ Blk W w1.heap.size 29 #[.slice (some ⟨g, 0, none⟩) 6 cap, .int .i64 0, .int .i64 0, .int .i64 65536, .int .i64 7, .int .i64 2] ∧ Blk W (w1.heap.size + 1) 35 #[.int .i64 0, .int .i64 0, .int .i64 0, .int .i64 0, .bool false, .int .i64 1, .int .i64 65536, .int .i64 65536, .int .i64 5, .int .i64 589824, .int .i64 65536, .int .i64 6] ∧ (W.cell? ⟨g, 4, none⟩ = some (.int .i64 (-65536)) ∧ W.cell? ⟨g, 7, none⟩ = some (.int .i64 196608) ∧ g < W.heap.size) ∧ Below w.heap.size w W) ?_ ?_
  · have hb : Below w1.heap.size w2 (w2.setCell ⟨w1.heap.size + 1, 5, none⟩ (.int .i64 1)) := (Below.refl _ _).setCell (Nat.le_succ _) _
    exact ⟨pl_keepN HRow2.out HGl.out hb, K4.out.far (p := ⟨w1.heap.size + 1, 5, none⟩) (by show w1.heap.size ≠ w1.heap.size + 1; omega) _, by simpa using K5.out.set_ 5 (.int .i64 1), ⟨(hb.cell (p := ⟨g, 4, none⟩) HGl.out).trans HC2.out.1, (hb.cell (p := ⟨g, 7, none⟩) HGl.out).trans HC2.out.2.1, Nat.lt_of_lt_of_le HC2.out.2.2 hb.size⟩, HB2.out.setCell (by have := HB2.out.size; show w.heap.size ≤ w1.heap.size + 1; have := HB1s.out; omega) _⟩
  · rintro W3 ⟨hrow, k4, k5, hc, hb3⟩
    have HRow3 := Lib.hid hrow
    have K43 := Lib.hid k4
    have K53 := Lib.hid k5
    have HC3 := Lib.hid hc
    have HB3 := Lib.hid hb3
    clear hrow k4 k5 hc hb3 K4 K5 HC2 HB2 HRow2 x5 y5 z5
    obtain ⟨c0, c1, c2, c3, c4, c5, y⟩ := vblk K43.out
    obtain ⟨d0, d1, d2, d3, d4, d5, d6, d7, d8, d9, d10, d11, _⟩ := blk12 K53.out
    have y' := K53.out.lt
    go_wp2_with fail
    refine (HS2.out g cap _ HRow3.out).mono ?_
    rintro e w4 ⟨rfl, hb⟩
    have HRow4 := Lib.hid (HRow3.out.keep hb)
    have HB4 := Lib.hid (bthen HB3.out hb)
    have g4 := cell_keep HC3.out.1 hb
    have g7 := cell_keep HC3.out.2.1 hb
    have gl := Nat.lt_of_lt_of_le HC3.out.2.2 hb.size
    have K44 := Lib.hid (K43.out.keep hb)
    clear hb c0 c1 c2 c3 c4 c5 y d0 d1 d2 d3 d4 d5 d6 d7 d8 d9 d10 d11 y' HC3 HB3 K43 K53 HRow3
    obtain ⟨c0, c1, c2, c3, c4, c5, y⟩ := vblk K44.out
    go_wp2_with fail
    refine (HRt.out g cap _ HRow4.out).mono ?_
    rintro e w5 ⟨rfl, hb⟩
    have HB5 := Lib.hid (bthen HB4.out hb)
    clear hb
    go_wp2
    go_ret
    exact ⟨rfl, HB5.out⟩
end Go.Proofs.Ytiognhmjadiooaa
