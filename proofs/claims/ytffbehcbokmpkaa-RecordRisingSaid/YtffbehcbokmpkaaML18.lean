/-
  2 texts in one file, each with its own heading.
-/
import Derived.Test.YtffbehcbokmpkaaML17
/-
  Of a list the rising one; the record of the least name.
-/
namespace Go.Proofs.Ytffbehcbokmpkaa
open Go.RowKit

theorem OwnX.mr {w : World} {t : TypeId} {base : Nat} {v : Value} {X : List Rc} (h : OwnX 12 cRc t w base v X) (hX : 0 < X.length) : ∃ g cap, v = .slice (some ⟨g, 0, none⟩) X.length cap ∧ base ≤ g ∧ X.length ≤ cap ∧ cap ≤ maxLen ∧ MR 12 cRc t w g X := by
  rcases h.2 with ⟨_, h0⟩ | ⟨g, cap, cur, hv, hb, hg, hn, hm, hs, ht⟩
  · omega
  · exact ⟨g, cap, hv, hb, hn, hm, cur.toList, by unfold Blk; rw [Array.toArray_toList]; exact hg, by have e : cur.toList.length = cur.size := rfl; have q := Nat.mul_le_mul_right 12 hn; omega, ht⟩
theorem MR.row {w : World} {t : TypeId} {g : Nat} {X : List Rc} (h : MR 12 cRc t w g X) (hX : X.length ≤ 9223372036854775807) : RcRow w (some ⟨g, 0, none⟩) X.length X :=
  ⟨rfl, hX, Or.inr ⟨g, 0, rfl, h.lt, fun i x hi => by rw [Nat.zero_add]; exact h.range cRc_len hi⟩⟩
theorem comp_zero (av : Option Addr) (cap : Nat) (fv : Value) (w : World) :
    Calls Try.prog 46 #[.slice av 0 cap, fv] w fun e w' => e = .returned (.slice av 0 cap) ∧ w = w' := by
  go_enter Try.func46, Try.ntmps46
  go_wp2
  go_ret
  exact ⟨rfl, rfl⟩
set_option maxHeartbeats 4000000 in
set_option maxRecDepth 100000 in
theorem ris_any (av : Option Addr) (n cap : Nat) (X : List Rc) (w : World) (row : RcRow w av n X) (hn : n ≤ 1000000) :
    Calls Try.prog 28 #[.slice av n cap] w fun e w' => ∃ a' m cap' F, e = .returned (.slice a' m cap') ∧ RcRow w' a' m F ∧ m ≤ cap' ∧ cap' ≤ maxLen ∧ m ≤ n ∧ Rise F ∧ (∀ k, look k F = look k X.reverse) ∧ Below w.heap.size w w' := by
  have HLn := Lib.hid row.1
  have HCl := Lib.hid (clone_any av n cap X w row hn)
  clear row
  go_enter Try.func28, Try.ntmps28
  go_wp2_with fail
  refine HCl.out.mono ?_
  rintro e w1 ⟨v, rfl, ho, hb⟩
  have HB := Lib.hid hb
  clear hb HCl
  rcases Nat.eq_zero_or_pos n with rfl | hpos
  · have hX : X = [] := List.eq_nil_of_length_eq_zero HLn.out
    subst hX
    obtain ⟨a, c, rfl, hc, hcm, hr⟩ := ho.row cRc_len
    have HR := Lib.hid (And.intro hr hcm)
    clear ho hr hcm
    rw [List.length_nil] at HR ⊢
    go_wp2_with fail
    refine (rev_none a c w1).mono ?_
    rintro e w2 ⟨rfl, rfl⟩
    go_wp2_with fail
    refine (sort_zero a c w1).mono ?_
    rintro e w2 ⟨rfl, rfl⟩
    go_wp2_with fail
    refine (comp_zero a c _ w1).mono ?_
    rintro e w2 ⟨rfl, rfl⟩
    go_wp2
    go_ret
    exact ⟨a, 0, c, [], rfl, HR.out.1, Nat.zero_le _, HR.out.2, Nat.le_refl _, List.Pairwise.nil, fun k => rfl, HB.out⟩
  · obtain ⟨g, c, rfl, hg, hc, hcm, hm⟩ := ho.mr (by rw [HLn.out]; exact hpos)
    rw [HLn.out] at hc ⊢
    have HRv := Lib.hid (rev_any g n c X w1 hm HLn.out (by omega))
    have HG := Lib.hid hg
    clear ho hm hg
    go_wp2_with fail
    refine HRv.out.mono ?_
    rintro e w2 ⟨rfl, hd⟩
    have HD := Lib.hid hd
    have HSo := Lib.hid (sort_any g n c X.reverse w2 hd.1 (by rw [List.length_reverse]; exact HLn.out) hn)
    clear hd HRv
    go_wp2_with fail
    refine HSo.out.mono ?_
    rintro e w3 ⟨rfl, Y, hd, hl, hf, ha⟩
    have HD2 := Lib.hid (HD.out.next hd)
    have HY := Lib.hid (And.intro hl (And.intro hf ha))
    have HCo := Lib.hid (comp_any g n c Y w3 hd.1 hl hn hpos hc hcm)
    clear hd hl hf ha HSo HD
    go_wp2_with fail
    refine HCo.out.mono ?_
    rintro e w4 ⟨m, rfl, hl, hd⟩
    have HD3 := Lib.hid (HD2.out.next hd)
    have HM := Lib.hid hl
    clear hd hl HCo HD2
    go_wp2
    go_ret
    obtain ⟨y1, y2, y3⟩ := HY.out
    obtain ⟨r1, _, r3⟩ := comp_ok y3 n (by omega)
    have hlen := comp_len Y n (by omega)
    refine ⟨_, m, c, compT Y n, rfl, ?_, by rw [← HM.out]; omega, hcm, by rw [← HM.out]; omega, r1, fun k => ?_, ?_⟩
    · rw [← HM.out]
      exact HD3.out.1.row (by omega)
    · rw [r3, List.take_of_length_le (by omega)]
      exact look_fil y2 k
    · exact grown_below2 HB.out HD3.out.2 (fun b e => by injection e with e; rw [← e]; exact HG.out)
def minK (X : List Rc) : Nat → Rc
  | 0 => (X[0]?).getD zRc
  | k + 1 => match X[k + 1]? with
    | some x => if x.id < (minK X k).id then x else minK X k
    | none => minK X k
theorem mink_less {X : List Rc} {k : Nat} {x : Rc} (hx : X[k + 1]? = some x) (h : x.id < (minK X k).id) : minK X (k + 1) = x := by
  unfold minK
  rw [hx]
  exact if_pos h
theorem mink_stay {X : List Rc} {k : Nat} {x : Rc} (hx : X[k + 1]? = some x) (h : ¬ x.id < (minK X k).id) : minK X (k + 1) = minK X k := by
  show (match X[k + 1]? with | some x => if x.id < (minK X k).id then x else minK X k | none => minK X k) = _
  rw [hx]
  exact if_neg h
theorem splice_rc (a b : Rc) : splice (cRc a) 0 (cRc b) = cRc b := splice_all rfl
set_option maxHeartbeats 16000000 in
set_option maxRecDepth 100000 in
theorem min_any (av : Option Addr) (n cap : Nat) (X : List Rc) (w : World) (row : RcRow w av n X) (hn : n ≤ 1000000) (hpos : 0 < n) :
    Calls Try.prog 25 #[.slice av n cap, .func (.func 26) #[] #[]] w fun e w' => e = .returned (.agg (cRc (minK X (n - 1))).toArray) ∧ Below w.heap.size w w' := by
  have HLn := Lib.hid row.1
  obtain ⟨b, off, x0, rfl, hb, hx0, _⟩ := row.at_ hpos
  have HR : Hid (∀ W i x, Below w.heap.size w W → X[i]? = some x → W.rangeAt b (off + i * 12) (cRc x)) := Lib.hid (fun W i x hbw hx => by
    rcases row.2.2 with h | ⟨b', off', e, hb', hr⟩
    · omega
    · injection e with e; injection e with e1 e2; subst e1 e2
      exact range_same (hr i x hx) (hbw.block b hb'))
  have HM0 : Hid (minK X 0 = x0) := Lib.hid (by unfold minK; rw [hx0]; rfl)
  have HX0 := Lib.hid hx0
  have HE := enters_by
  have hE := HE
  unfold Enters at hE
  have K0 := Lib.hid (Blk.new w 36 (cRc zRc).toArray)
  have HB0 : Hid (Below w.heap.size w (w.alloc (.cells (cRc zRc).toArray 36))) := Lib.hid (alloc_below _ _)
  have n1 : ¬ (n : Int) < 1 := by omega
  clear row hb hx0 HE
  go_enter Try.func25, Try.ntmps25
  go_upto_region 1 with fail
  refine fin (fun W => Blk W w.heap.size 36 (cRc zRc).toArray ∧ Below w.heap.size w W) ⟨K0.out, HB0.out⟩ ?_
  clear K0 HB0
  rintro W0 ⟨k0, hb0⟩
  have K0 := Lib.hid k0
  have HB0 := Lib.hid hb0
  clear k0 hb0
  obtain ⟨Z, hZ⟩ : ∃ Z, Z = cRc x0 := ⟨_, rfl⟩
  have HL0 : Hid (W0.rangeAt b (off + 0 * 12) Z) := Lib.hid (hZ ▸ HR.out W0 0 x0 HB0.out HX0.out)
  have HSz : Hid ((Try.prog.info? 36).map (·.size) = some Z.length) := Lib.hid (hZ ▸ rc_size x0)
  have HSz' : Hid ((Try.prog.info? 36).map (·.size) = some Z.toArray.size) := Lib.hid (by rw [List.size_toArray]; exact HSz.out)
  have HOz : Hid (Z.toArray.all (·.oneCell') = true) := Lib.hid (hZ ▸ rc_all x0)
  have KN := Blk.new W0 36 (cRc zRc).toArray
  have HTh : Hid ((W0.alloc (.cells (cRc zRc).toArray 36)).there W0.heap.size 0 Z.toArray.size) := Lib.hid (blk_there KN (by rw [List.size_toArray, hZ]; exact Nat.le_refl 12))
  have HFin : Hid (Blk ((W0.alloc (.cells (cRc zRc).toArray 36)).setCells W0.heap.size 0 Z) w.heap.size 36 (cRc zRc).toArray ∧ Blk ((W0.alloc (.cells (cRc zRc).toArray 36)).setCells W0.heap.size 0 Z) W0.heap.size 36 (cRc (minK X 0)).toArray ∧ Below w.heap.size w ((W0.alloc (.cells (cRc zRc).toArray 36)).setCells W0.heap.size 0 Z)) := Lib.hid (by
    have hlt := K0.out.lt
    refine ⟨blk_setFar Z (K0.out.alloc _) (by omega), ?_, below_setCells Z (balloc HB0.out _) (by omega)⟩
    have := blk_setCells Z (o := 0) KN (by rw [hZ]; exact Nat.le_refl 12)
    rw [hZ, splice_rc] at this
    rw [HM0.out, hZ]
    exact this)
  have HG : Hid (w.heap.size < W0.heap.size) := Lib.hid K0.out.lt
  clear KN hZ
  rw [Nat.zero_mul] at HL0
  go_upto_region 4 with (first
    | refine wpList_load_mid rfl 36 (.tmp 12) rfl b (off + 0) rfl Z _ HL0.out Try.underlying36 rfl HSz.out ?_
    | refine wpList_store_mid rfl 36 (.tmp 5) (.tmp 13) rfl W0.heap.size 0 Z.toArray rfl rfl HTh.out HSz'.out HOz.out ?_)
  refine fin (fun W => Blk W w.heap.size 36 (cRc zRc).toArray ∧ Blk W W0.heap.size 36 (cRc (minK X 0)).toArray ∧ Below w.heap.size w W) HFin.out ?_
  obtain ⟨g5, hg5⟩ : ∃ g5, g5 = W0.heap.size := ⟨_, rfl⟩
  rw [← hg5] at HG ⊢
  clear HFin HTh HL0 HSz HSz' HOz K0 HB0 hg5
  rintro W1 ⟨k4, k5, hb1⟩
  have K4 := Lib.hid k4
  have K5 := Lib.hid k5
  have HB1 := Lib.hid hb1
  clear k4 k5 hb1
  go_wp2
  go_loopw [6] (fun v6 wr => ∃ k : Nat, v6 = .int .i64 ((k + 1 : Nat) : Int) ∧ k + 1 ≤ n ∧ Blk wr w.heap.size 36 (cRc zRc).toArray ∧ Blk wr g5 36 (cRc (minK X k)).toArray ∧ Below w.heap.size w wr) (fun v6 _ => n - (ivl v6).toNat)
  case atStart => exact ⟨0, rfl, by omega, K4.out, K5.out, HB1.out⟩
  case round =>
    clear K4 K5 HB1
    obtain ⟨k, rfl, hk, k4, k5, hb1⟩ := hrel
    have K4 := Lib.hid k4
    have K5 := Lib.hid k5
    have HB1 := Lib.hid hb1
    clear k4 k5 hb1
    by_cases hlt : k + 1 < n
    · have hxl := HLn.out
      obtain ⟨x, hx⟩ : ∃ x, X[k + 1]? = some x := ⟨_, List.getElem?_eq_getElem (by omega)⟩
      obtain ⟨y, hy⟩ : ∃ y, y = minK X k := ⟨_, rfl⟩
      have HLess : Hid (x.id < y.id → minK X (k + 1) = x) := Lib.hid (fun h => mink_less hx (by rw [← hy]; exact h))
      have HStay : Hid (¬ x.id < y.id → minK X (k + 1) = y) := Lib.hid (fun h => (mink_stay hx (by rw [← hy]; exact h)).trans hy.symm)
      rw [← hy] at K5
      have HS : Hid (∀ W, Below wr.heap.size wr W → W.rangeAt b (off + (k + 1) * 12) (cRc x) ∧ W.rangeAt g5 0 (cRc y)) := Lib.hid (fun W hb => ⟨HR.out W (k + 1) x (bthen HB1.out hb) hx, blk_whole (K5.out.keep hb)⟩)
      have HCm : Hid (∀ W, Calls Try.prog 26 #[.agg (cRc x).toArray, .agg (cRc y).toArray] W fun e w' => e = .returned (.int .i64 (cmpI x.id y.id)) ∧ Below W.heap.size W w') := Lib.hid (fun W => by_any x y W)
      have HSz : Hid (((Try.prog.info? 36).map (·.size) = some (cRc x).length) ∧ ((Try.prog.info? 36).map (·.size) = some (cRc y).length)) := Lib.hid ⟨rc_size x, rc_size y⟩
      have HCn : Hid (cmpI x.id y.id < 0 ↔ x.id < y.id) := Lib.hid cmp_neg
      have HKs : Hid (∀ W, Below wr.heap.size wr W → Blk W w.heap.size 36 (cRc zRc).toArray ∧ Blk W g5 36 (cRc y).toArray ∧ Below w.heap.size w W) := Lib.hid (fun W hb => ⟨K4.out.keep hb, K5.out.keep hb, bthen HB1.out hb⟩)
      have HSt : Hid (∀ W, Below wr.heap.size wr W → W.rangeAt b (off + (k + 1) * 12) (cRc x) ∧ W.there g5 0 12 ∧ Blk (W.setCells g5 0 (cRc x)) w.heap.size 36 (cRc zRc).toArray ∧ Blk (W.setCells g5 0 (cRc x)) g5 36 (cRc x).toArray ∧ Below w.heap.size w (W.setCells g5 0 (cRc x))) := Lib.hid (fun W hb => by
        obtain ⟨q4, q5, q6⟩ := HKs.out W hb
        refine ⟨(HS.out W hb).1, blk_there q5 (Nat.le_refl 12), blk_setFar _ q4 (by have := HG.out; omega), ?_, below_setCells _ q6 (by have := HG.out; omega)⟩
        have := blk_setCells (cRc x) (o := 0) q5 (Nat.le_refl 12)
        rw [splice_rc] at this
        exact this)
      obtain ⟨XP, hXP⟩ : ∃ XP, XP = cRc x := ⟨_, rfl⟩
      obtain ⟨XQ, hXQ⟩ : ∃ XQ, XQ = cRc y := ⟨_, rfl⟩
      have HXp := Lib.hid hXP
      have HXq := Lib.hid hXQ
      have HLp : Hid (XP.toArray.all (·.oneCell') = true ∧ XP.length = 12) := Lib.hid (by rw [hXP]; exact ⟨rc_all x, rfl⟩)
      rw [← hXP] at HCm HSz HS HSt
      rw [← hXQ] at HCm HSz HS HKs
      obtain ⟨cc, hcc⟩ : ∃ cc, cc = cmpI x.id y.id := ⟨_, rfl⟩
      rw [← hcc] at HCm HCn
      obtain ⟨p, hp⟩ : ∃ p, p = k + 1 := ⟨_, rfl⟩
      rw [← hp] at HS HSt HLess HStay hlt hk ⊢
      have p0 : (0 : Int) ≤ (p : Int) := by omega
      have p1 : (p : Int) < (n : Int) := by omega
      have HP := Lib.hid hp
      clear hXP hXQ hcc hp hx hy hxl
      go_wp2_with fail
      refine wp_region_held_drew (S := fun w' => w'.rangeAt b (off + p * 12) XP ∧ w'.rangeAt g5 0 XQ) (by kernel_rfl) (HS.out _ (bdrew (Below.refl _ _))) (fun hHeld => ?_)
      refine tk 0 hHeld ?_
      refine tk 1 hHeld ?_
      refine tk 2 hHeld ?_
      refine tk 3 hHeld ?_
      refine tkl 4 rfl (yieldsIf_load_mid (by rfl) _ _ rfl _ _ rfl _ _ (fun _ h => h.1) Try.underlying36 rfl HSz.out.1) hHeld ?_
      refine tkl 5 rfl (yieldsIf_load_mid (by rfl) _ _ rfl _ _ rfl _ _ (fun _ h => h.2) Try.underlying36 rfl HSz.out.2) hHeld ?_
      refine rd 6 (fun K hK => ?_)
      go_simp
      refine (HCm.out _).mono ?_
      rintro e w1 ⟨rfl, b1⟩
      go_wp2_with fail
      refine hK.out _ _ (HS.out _ (bthen (bdrew (Below.refl _ _)) b1)) (fun hHeld => ?_)
      clear hK K
      refine tk 7 hHeld ?_
      refine wpAnyH_done (by kernel_rfl) ?_ _
      clear hHeld
      refine fin (fun W => Below wr.heap.size wr W) (bthen (bdrew (Below.refl _ _)) b1) ?_
      clear b1 HS HCm
      rintro W hbW
      have HBW := Lib.hid hbW
      clear hbW
      by_cases hc : cc < 0
      · have HE1 := Lib.hid (HLess.out (HCn.out.1 hc))
        have HS2 := Lib.hid (HSt.out W HBW.out)
        have HTh : Hid (W.there g5 0 XP.toArray.size) := Lib.hid (by rw [List.size_toArray, HLp.out.2]; exact HS2.out.2.1)
        have HSz' : Hid ((Try.prog.info? 36).map (·.size) = some XP.toArray.size) := Lib.hid (by rw [List.size_toArray]; exact HSz.out.1)
        have HE2 : Hid (Blk (W.setCells g5 0 XP) g5 36 (cRc (minK X p)).toArray) := Lib.hid (by rw [HE1.out, ← HXp.out]; exact HS2.out.2.2.2.1)
        clear HSt HKs HLess HStay HE1
        go_wp2_with (first
          | refine wpList_load_mid rfl 36 (.tmp 30) rfl b (off + p * 12) rfl XP _ HS2.out.1 Try.underlying36 rfl HSz.out.1 ?_
          | refine wpList_store_mid rfl 36 (.tmp 5) (.tmp 31) rfl g5 0 XP.toArray rfl rfl HTh.out HSz'.out HLp.out.1 ?_)
        go_roundw
        case rel => exact ⟨p, by go_num, by omega, HS2.out.2.2.1, HE2.out, HS2.out.2.2.2.2⟩
        case measure => simp [ivl] <;> omega
      · have HE1 : Hid (minK X p = y) := Lib.hid (HStay.out (by have := HCn.out; omega))
        have HS2 := Lib.hid (HKs.out W HBW.out)
        have HE2 : Hid (Blk W g5 36 (cRc (minK X p)).toArray) := Lib.hid (by rw [HE1.out, ← HXq.out]; exact HS2.out.2.1)
        clear HSt HKs HLess HStay HE1
        go_wp2
        go_roundw
        case rel => exact ⟨p, by go_num, by omega, HS2.out.1, HE2.out, HS2.out.2.2⟩
        case measure => simp [ivl] <;> omega
    · have hlt' : ¬ ((k + 1 : Nat) : Int) < (n : Int) := by omega
      have ek : k = n - 1 := by omega
      rw [ek] at K5
      obtain ⟨y, hy⟩ : ∃ y, y = minK X (n - 1) := ⟨_, rfl⟩
      rw [← hy] at K5
      have HT4 : Hid (wr.there w.heap.size 0 12) := Lib.hid (blk_there K4.out (Nat.le_refl 12))
      have HR5 := Lib.hid (blk_whole K5.out)
      have HE4 : Hid (Blk (wr.setCells w.heap.size 0 (cRc y)) w.heap.size 36 (cRc y).toArray ∧ Below w.heap.size w (wr.setCells w.heap.size 0 (cRc y))) := Lib.hid (by
        have := blk_setCells (cRc y) (o := 0) K4.out (Nat.le_refl 12)
        rw [splice_rc] at this
        exact ⟨this, below_setCells _ HB1.out (Nat.le_refl _)⟩)
      have HSz := Lib.hid (rc_size y)
      have HOy := Lib.hid (rc_all y)
      obtain ⟨XQ, hXQ⟩ : ∃ XQ, XQ = cRc y := ⟨_, rfl⟩
      have HLq : Hid (XQ.length = 12) := Lib.hid (by rw [hXQ]; rfl)
      have HXe : Hid (XQ = cRc (minK X (n - 1))) := Lib.hid (by rw [hXQ, hy])
      rw [← hXQ] at HR5 HE4 HSz HOy
      have HSz' : Hid ((Try.prog.info? 36).map (·.size) = some XQ.toArray.size) := Lib.hid (by rw [List.size_toArray]; exact HSz.out)
      have HTh : Hid (wr.there w.heap.size 0 XQ.toArray.size) := Lib.hid (by show wr.there w.heap.size 0 XQ.length; rw [HLq.out]; exact HT4.out)
      clear hXQ hy ek K5 K4 HT4
      go_wp2_with (first
        | refine wpList_load_mid rfl 36 (.tmp 5) rfl g5 0 rfl XQ _ HR5.out Try.underlying36 rfl HSz.out ?_
        | refine wpList_store_mid rfl 36 (.tmp 4) (.tmp 32) rfl w.heap.size 0 XQ.toArray rfl rfl HTh.out HSz'.out HOy.out ?_)
      refine fin (fun W => Blk W w.heap.size 36 XQ.toArray ∧ Below w.heap.size w W) HE4.out ?_
      rintro W ⟨kr, hbf⟩
      have hl := run_loadVar_mid W w.heap.size 0 36 XQ _ (blk_whole kr) Try.underlying36 rfl HSz.out
      (try simp only [Act.put, List.setIfInBounds_toArray])
      exact bodyPost_ret (v := .agg XQ.toArray) (results_cell Try.results25 rfl hl) rfl ⟨by rw [HXe.out], hbf⟩
set_option maxHeartbeats 4000000 in
set_option maxRecDepth 100000 in
theorem least_zero (av : Option Addr) (cap : Nat) (w : World) :
    Calls Try.prog 10 #[.slice av 0 cap] w fun e w' => e = .returned (.tuple #[.agg (cRc zRc).toArray, .bool false]) ∧ Below w.heap.size w w' := by
  have K0 := Blk.new w 36 (cRc zRc).toArray
  have HTh : Hid ((w.alloc (.cells (cRc zRc).toArray 36)).there w.heap.size 0 (cRc zRc).toArray.size) := Lib.hid (blk_there K0 (Nat.le_refl 12))
  have HF : Hid (Blk ((w.alloc (.cells (cRc zRc).toArray 36)).setCells w.heap.size 0 (cRc zRc)) w.heap.size 36 (cRc zRc).toArray ∧ Below w.heap.size w ((w.alloc (.cells (cRc zRc).toArray 36)).setCells w.heap.size 0 (cRc zRc))) := Lib.hid (by
    have := blk_setCells (cRc zRc) (o := 0) K0 (Nat.le_refl 12)
    rw [splice_rc] at this
    exact ⟨this, below_setCells _ (alloc_below _ _) (Nat.le_refl _)⟩)
  have HSz : Hid ((Try.prog.info? 36).map (·.size) = some (cRc zRc).toArray.size) := Lib.hid (rc_size zRc)
  have HOz := Lib.hid (rc_all zRc)
  clear K0
  go_enter Try.func10, Try.ntmps10
  go_wp2_with (refine wpList_store_mid rfl 36 (.tmp 2) (.tmp 7) rfl w.heap.size 0 (cRc zRc).toArray rfl rfl HTh.out HSz.out HOz.out ?_)
  refine fin (fun W => Blk W w.heap.size 36 (cRc zRc).toArray ∧ Below w.heap.size w W) HF.out ?_
  rintro W ⟨kr, hb⟩
  have hl := run_loadVar_mid W w.heap.size 0 36 (cRc zRc) _ (blk_whole kr) Try.underlying36 rfl (rc_size zRc)
  (try simp only [Act.put, List.setIfInBounds_toArray, List.set_cons_zero, List.set_cons_succ])
  exact bodyPost_ret (v := .tuple #[.agg (cRc zRc).toArray, .bool false]) (results_cell2 Try.results10 rfl rfl hl) rfl ⟨rfl, hb⟩
set_option maxHeartbeats 4000000 in
set_option maxRecDepth 100000 in
theorem least_pos (av : Option Addr) (n cap : Nat) (X : List Rc) (w : World) (row : RcRow w av n X) (hn : n ≤ 1000000) (hpos : 0 < n) :
    Calls Try.prog 10 #[.slice av n cap] w fun e w' => e = .returned (.tuple #[.agg (cRc (minK X (n - 1))).toArray, .bool true]) ∧ Below w.heap.size w w' := by
  have K0 := Blk.new w 36 (cRc zRc).toArray
  have HM := Lib.hid (min_any av n cap X (w.alloc (.cells (cRc zRc).toArray 36)) (row.keep (alloc_below _ _)) hn hpos)
  obtain ⟨y, hy⟩ : ∃ y, y = minK X (n - 1) := ⟨_, rfl⟩
  rw [← hy] at HM ⊢
  have HF : Hid (∀ W, Below (w.alloc (.cells (cRc zRc).toArray 36)).heap.size (w.alloc (.cells (cRc zRc).toArray 36)) W → W.there w.heap.size 0 12 ∧ Blk (W.setCells w.heap.size 0 (cRc y)) w.heap.size 36 (cRc y).toArray ∧ Below w.heap.size w (W.setCells w.heap.size 0 (cRc y))) := Lib.hid (fun W hb => by
    have k1 := K0.keep hb
    have := blk_setCells (cRc y) (o := 0) k1 (Nat.le_refl 12)
    rw [splice_rc] at this
    exact ⟨blk_there k1 (Nat.le_refl 12), this, below_setCells _ (bthen (alloc_below _ _) hb) (Nat.le_refl _)⟩)
  have HSz := Lib.hid (rc_size y)
  have HOy := Lib.hid (rc_all y)
  obtain ⟨XQ, hXQ⟩ : ∃ XQ, XQ = cRc y := ⟨_, rfl⟩
  have HLq : Hid (XQ.length = 12) := Lib.hid (by rw [hXQ]; rfl)
  rw [← hXQ] at HM HF HSz HOy ⊢
  have HSz' : Hid ((Try.prog.info? 36).map (·.size) = some XQ.toArray.size) := HSz
  have n1 : ((n : Int) == 0) = false := by simp; omega
  clear K0 hy hXQ row
  go_enter Try.func10, Try.ntmps10
  go_wp2_with fail
  refine HM.out.mono ?_
  rintro e w1 ⟨rfl, hb⟩
  have HF1 := Lib.hid (HF.out w1 hb)
  have HTh : Hid (w1.there w.heap.size 0 XQ.toArray.size) := Lib.hid (by show w1.there w.heap.size 0 XQ.length; rw [HLq.out]; exact HF1.out.1)
  clear hb HF HM
  go_wp2_with (refine wpList_store_mid rfl 36 (.tmp 2) (.tmp 9) rfl w.heap.size 0 XQ.toArray rfl rfl HTh.out HSz'.out HOy.out ?_)
  refine fin (fun W => Blk W w.heap.size 36 XQ.toArray ∧ Below w.heap.size w W) HF1.out.2 ?_
  rintro W ⟨kr, hbf⟩
  have hl := run_loadVar_mid W w.heap.size 0 36 XQ _ (blk_whole kr) Try.underlying36 rfl HSz.out
  (try simp only [Act.put, List.setIfInBounds_toArray, List.set_cons_zero, List.set_cons_succ])
  exact bodyPost_ret (v := .tuple #[.agg XQ.toArray, .bool true]) (results_cell2 Try.results10 rfl rfl hl) rfl ⟨rfl, hbf⟩
structure MrgAt (F O Z F' O' : List Rc) : Prop where
  rz : Rise Z
  rf : Rise F'
  ro : Rise O'
  zf : ∀ z ∈ Z, ∀ x ∈ F', z.id < x.id
  zo : ∀ z ∈ Z, ∀ x ∈ O', z.id < x.id
  lk : ∀ k, (look k Z).or ((look k F').or (look k O')) = (look k F).or (look k O)
theorem mrgAt_start {F O : List Rc} (hF : Rise F) (hO : Rise O) : MrgAt F O [] F O := ⟨List.Pairwise.nil, hF, hO, (fun z hz => by cases hz), (fun z hz => by cases hz), fun k => rfl⟩
theorem rise_snoc {Z : List Rc} {r : Rc} (h : Rise Z) (hl : ∀ z ∈ Z, z.id < r.id) : Rise (Z ++ [r]) :=
  List.pairwise_append.2 ⟨h, List.pairwise_singleton _ _, fun a ha b hb => by rw [List.mem_singleton.1 hb]; exact hl a ha⟩
theorem look_one (k : Int) (r : Rc) : look k [r] = if r.id = k then some r else none := by rw [look_cons]; rfl
theorem MrgAt.old {F O Z F' O' : List Rc} {f o : Rc} (h : MrgAt F O Z (f :: F') (o :: O')) (hlt : o.id < f.id) : MrgAt F O (Z ++ [o]) (f :: F') O' := by
  obtain ⟨f1, f2⟩ := rise_cons.1 h.rf
  obtain ⟨o1, o2⟩ := rise_cons.1 h.ro
  have hof : ∀ x ∈ f :: F', o.id < x.id := fun x hx => by
    rcases List.mem_cons.1 hx with rfl | hx
    · exact hlt
    · have := f1 x hx; omega
  refine ⟨rise_snoc h.rz (fun z hz => h.zo z hz o List.mem_cons_self), h.rf, o2, fun z hz x hx => ?_, fun z hz x hx => ?_, fun k => ?_⟩
  · rcases List.mem_append.1 hz with hz | hz
    · exact h.zf z hz x hx
    · rw [List.mem_singleton.1 hz]; exact hof x hx
  · rcases List.mem_append.1 hz with hz | hz
    · exact h.zo z hz x (List.mem_cons_of_mem _ hx)
    · rw [List.mem_singleton.1 hz]; exact o1 x hx
  · rw [← h.lk k, look_app, look_one, look_cons k o, Option.or_assoc]
    by_cases hk : o.id = k
    · rw [if_pos hk, if_pos hk, look_none (k := k) (L := f :: F') (fun x hx => by have := hof x hx; omega)]
      simp
    · rw [if_neg hk, if_neg hk, Option.none_or]
theorem MrgAt.fresh {F O Z F' O' : List Rc} {f o : Rc} (h : MrgAt F O Z (f :: F') (o :: O')) (hlt : f.id < o.id) : MrgAt F O (Z ++ [f]) F' (o :: O') := by
  obtain ⟨f1, f2⟩ := rise_cons.1 h.rf
  obtain ⟨o1, o2⟩ := rise_cons.1 h.ro
  refine ⟨rise_snoc h.rz (fun z hz => h.zf z hz f List.mem_cons_self), f2, h.ro, fun z hz x hx => ?_, fun z hz x hx => ?_, fun k => ?_⟩
  · rcases List.mem_append.1 hz with hz | hz
    · exact h.zf z hz x (List.mem_cons_of_mem _ hx)
    · rw [List.mem_singleton.1 hz]; exact f1 x hx
  · rcases List.mem_append.1 hz with hz | hz
    · exact h.zo z hz x hx
    · rw [List.mem_singleton.1 hz]
      rcases List.mem_cons.1 hx with rfl | hx
      · exact hlt
      · have := o1 x hx; omega
  · rw [← h.lk k, look_app, look_one, look_cons k f, Option.or_assoc]
    by_cases hk : f.id = k
    · rw [if_pos hk, if_pos hk]; simp
    · rw [if_neg hk, if_neg hk, Option.none_or]
theorem MrgAt.both {F O Z F' O' : List Rc} {f o : Rc} (h : MrgAt F O Z (f :: F') (o :: O')) (he : f.id = o.id) : MrgAt F O (Z ++ [f]) F' O' := by
  obtain ⟨f1, f2⟩ := rise_cons.1 h.rf
  obtain ⟨o1, o2⟩ := rise_cons.1 h.ro
  refine ⟨rise_snoc h.rz (fun z hz => h.zf z hz f List.mem_cons_self), f2, o2, fun z hz x hx => ?_, fun z hz x hx => ?_, fun k => ?_⟩
  · rcases List.mem_append.1 hz with hz | hz
    · exact h.zf z hz x (List.mem_cons_of_mem _ hx)
    · rw [List.mem_singleton.1 hz]; exact f1 x hx
  · rcases List.mem_append.1 hz with hz | hz
    · exact h.zo z hz x (List.mem_cons_of_mem _ hx)
    · rw [List.mem_singleton.1 hz, he]; exact o1 x hx
  · rw [← h.lk k, look_app, look_one, look_cons k f, look_cons k o, Option.or_assoc]
    by_cases hk : f.id = k
    · rw [if_pos hk, if_pos hk]; simp
    · rw [if_neg hk, if_neg hk, if_neg (by omega), Option.none_or]
theorem MrgAt.last {F O Z F' O' : List Rc} (h : MrgAt F O Z F' O') (he : F' = [] ∨ O' = []) : Rise (Z ++ F' ++ O') ∧ ∀ k, look k (Z ++ F' ++ O') = (look k F).or (look k O) := by
  refine ⟨?_, fun k => by rw [look_app, look_app, Option.or_assoc]; exact h.lk k⟩
  rcases he with rfl | rfl
  · rw [List.append_nil]; exact List.pairwise_append.2 ⟨h.rz, h.ro, h.zo⟩
  · rw [List.append_nil]; exact List.pairwise_append.2 ⟨h.rz, h.rf, h.zf⟩
set_option maxHeartbeats 8000000 in
set_option maxRecDepth 100000 in
theorem mrg_r3 {u2 u3 u4 u5 u6 u7 u8 u9 u10 u11 u12 u13 u14 u15 u16 u17 u18 u19 u20 u21 u22 u23 u24 u25 u26 u27 u28 u29 u30 u31 u32 u33 u34 u35 u36 u37 u38 u39 u40 u41 u42 u43 u44 u45 u46 u47 u48 u49 u50 u51 u52 u53 u54 u55 : Value} {Q : Exit → Go.Act → World → Prop} {bf of nf cf bo oo no co : Nat} {XF XO : List Value} {w : World}
    (hQ : ∀ c a d v w, Q (.panic c) (a.put d v) w → Q (.panic c) a w)
    (hf : 0 < nf) (ho : 0 < no)
    (hLf : XF.length = 12) (hLo : XO.length = 12) (hOf : XF.toArray.all (·.oneCell') = true) (hOo : XO.toArray.all (·.oneCell') = true)
    (hS : ∀ W, Below w.heap.size w W → W.rangeAt bf of XF ∧ W.rangeAt bo oo XO)
    (hk : ∀ W' g6 g7, Blk W' g6 36 XF.toArray → Blk W' g7 36 XO.toArray → g6 ≠ g7 → w.heap.size ≤ g6 → w.heap.size ≤ g7 → Below w.heap.size w W' → Q .normal { tmps := #[.slice (some ⟨bf, of, none⟩) nf cf, .slice (some ⟨bo, oo, none⟩) no co, u2, u3, u4, u5, .pointer (some ⟨g6, 0, none⟩), .pointer (some ⟨g7, 0, none⟩), u8, u9, u10, u11, u12, u13, u14, u15, u16, u17, u18, u19, u20, u21, u22, u23, .slice (some ⟨bf, of, none⟩) nf cf, .pointer (some ⟨bf, of, none⟩), .agg XF.toArray, .slice (some ⟨bo, oo, none⟩) no co, .pointer (some ⟨bo, oo, none⟩), .agg XO.toArray, u30, u31, u32, u33, u34, u35, u36, u37, u38, u39, u40, u41, u42, u43, u44, u45, u46, u47, u48, u49, u50, u51, u52, u53, u54, u55], defers := [] } W') :
    (Code.region 3 #[{ dst := some 24, op := Op.move (Operand.tmp 0), type := 46, pos := "record.go:103", after := #[], guard := none }, { dst := some 25, op := Op.indexAddr 46 (Operand.tmp 24) (Operand.const (Value.int IntKind.i64 0)), type := 0, pos := "record.go:103", after := #[{ on := 0, ground := Ground.data }], guard := none }, { dst := some 26, op := Op.load 36 (Operand.tmp 25), type := 36, pos := "record.go:103", after := #[{ on := 1, ground := Ground.data }], guard := none }, { dst := some 27, op := Op.move (Operand.tmp 1), type := 46, pos := "record.go:103", after := #[{ on := 8, ground := Ground.gcOnly Departure.lateStores }], guard := none }, { dst := some 28, op := Op.indexAddr 46 (Operand.tmp 27) (Operand.const (Value.int IntKind.i64 0)), type := 0, pos := "record.go:103", after := #[{ on := 3, ground := Ground.data }, { on := 8, ground := Ground.gcOnly Departure.lateStores }], guard := none }, { dst := some 29, op := Op.load 36 (Operand.tmp 28), type := 36, pos := "record.go:103", after := #[{ on := 4, ground := Ground.data }, { on := 8, ground := Ground.gcOnly Departure.lateStores }], guard := none }, { dst := some 6, op := Op.alloc 36, type := 0, pos := "record.go:103", after := #[], guard := none }, { dst := some 7, op := Op.alloc 36, type := 0, pos := "record.go:103", after := #[], guard := none }, { dst := none, op := Op.store 36 (Operand.tmp 6) (Operand.tmp 26), type := 0, pos := "record.go:103", after := #[{ on := 6, ground := Ground.data }, { on := 2, ground := Ground.data }, { on := 0, ground := Ground.phase }, { on := 1, ground := Ground.phase }, { on := 2, ground := Ground.phase }, { on := 3, ground := Ground.textOnly Departure.lateStores }, { on := 4, ground := Ground.textOnly Departure.lateStores }, { on := 5, ground := Ground.textOnly Departure.lateStores }, { on := 6, ground := Ground.phase }, { on := 7, ground := Ground.phase }], guard := none }, { dst := none, op := Op.store 36 (Operand.tmp 7) (Operand.tmp 29), type := 0, pos := "record.go:103", after := #[{ on := 7, ground := Ground.data }, { on := 5, ground := Ground.data }, { on := 8, ground := Ground.chain }, { on := 0, ground := Ground.phase }, { on := 1, ground := Ground.phase }, { on := 2, ground := Ground.phase }, { on := 3, ground := Ground.phase }, { on := 4, ground := Ground.phase }, { on := 5, ground := Ground.phase }, { on := 6, ground := Ground.phase }, { on := 7, ground := Ground.phase }, { on := 8, ground := Ground.phase }], guard := none }] true).wp Try.prog Q { tmps := #[.slice (some ⟨bf, of, none⟩) nf cf, .slice (some ⟨bo, oo, none⟩) no co, u2, u3, u4, u5, u6, u7, u8, u9, u10, u11, u12, u13, u14, u15, u16, u17, u18, u19, u20, u21, u22, u23, u24, u25, u26, u27, u28, u29, u30, u31, u32, u33, u34, u35, u36, u37, u38, u39, u40, u41, u42, u43, u44, u45, u46, u47, u48, u49, u50, u51, u52, u53, u54, u55], defers := [] } w := by
  have HK := Lib.hid hk
  have HS := Lib.hid hS
  have HSf : Hid ((Try.prog.info? 36).map (·.size) = some XF.length) := Lib.hid (by rw [hLf]; kernel_rfl)
  have HSo : Hid ((Try.prog.info? 36).map (·.size) = some XO.length) := Lib.hid (by rw [hLo]; kernel_rfl)
  have HSf' : Hid ((Try.prog.info? 36).map (·.size) = some XF.toArray.size) := HSf
  have HSo' : Hid ((Try.prog.info? 36).map (·.size) = some XO.toArray.size) := HSo
  have HOf := Lib.hid hOf
  have HOo := Lib.hid hOo
  have HLf := Lib.hid hLf
  have HLo := Lib.hid hLo
  clear hk hS hLf hLo hOf hOo
  refine wp_region_held_drew (S := fun w' => w'.rangeAt bf of XF ∧ w'.rangeAt bo oo XO) (by kernel_rfl) (HS.out _ (bdrew (Below.refl _ _))) (fun hHeld => ?_)
  refine tk 0 hHeld ?_ (hQ := fun c a w h => hQ c a _ _ w h)
  refine tk 1 hHeld ?_ (hQ := fun c a w h => hQ c a _ _ w h)
  refine wpAnyH_take (i := 2) (v := _) rfl (by kernel_rfl) (by kernel_rfl) (by kernel_rfl) (fun c a w h => hQ c a _ _ w h) (yieldsIf_load_mid (by rfl) _ _ rfl _ _ rfl _ _ (fun _ h => h.1) Try.underlying36 rfl HSf.out) hHeld ?_
  simp only [Act.put, List.getElem_toArray, List.getElem_cons_zero, List.getElem_cons_succ, List.setIfInBounds_toArray, List.set_cons_zero, List.set_cons_succ]
  refine tk 3 hHeld ?_ (hQ := fun c a w h => hQ c a _ _ w h)
  refine tk 4 hHeld ?_ (hQ := fun c a w h => hQ c a _ _ w h)
  refine wpAnyH_take (i := 5) (v := _) rfl (by kernel_rfl) (by kernel_rfl) (by kernel_rfl) (fun c a w h => hQ c a _ _ w h) (yieldsIf_load_mid (by rfl) _ _ rfl _ _ rfl _ _ (fun _ h => h.2) Try.underlying36 rfl HSo.out) hHeld ?_
  simp only [Act.put, List.getElem_toArray, List.getElem_cons_zero, List.getElem_cons_succ, List.setIfInBounds_toArray, List.set_cons_zero, List.set_cons_succ]
  refine fin (fun W => Below w.heap.size w W) (bdrew (Below.refl _ _)) ?_
  clear hHeld
  rintro W hb
  have HB := Lib.hid hb
  clear hb
  refine wpAnyH_ready (rs := [6, 7]) (by kernel_rfl) (by simp) ?_
  refine AllReadyH.cons rfl (fun K hK => ?_) (AllReadyH.cons rfl (fun K hK => ?_) AllReadyH.nil)
  · go_simp
    refine hK.out _ _ (HS.out _ (balloc HB.out _)) (fun hHeld => ?_)
    clear hK K
    refine fin (fun W2 => W.heap.size < W2.heap.size ∧ Blk W2 W.heap.size 36 (cRc zRc).toArray ∧ Below w.heap.size w W2) ⟨by simp, Blk.new _ _ _, balloc HB.out _⟩ ?_
    clear hHeld
    rintro W2 ⟨hlt, ka, hb⟩
    have KA := Lib.hid ka
    have HB2 := Lib.hid hb
    clear ka hb
    refine rd 7 (fun K hK => ?_)
    go_simp
    refine hK.out _ _ (HS.out _ (balloc HB2.out _)) (fun hHeld => ?_)
    clear hK K
    refine fin (fun W3 => Blk W3 W.heap.size 36 (cRc zRc).toArray ∧ Blk W3 W2.heap.size 36 (cRc zRc).toArray ∧ Below w.heap.size w W3) ⟨KA.out.alloc _, Blk.new _ _ _, balloc HB2.out _⟩ ?_
    clear hHeld KA
    have hw1 := HB.out.size
    have hw2 := HB2.out.size
    obtain ⟨ga, hga⟩ : ∃ ga, ga = W.heap.size := ⟨_, rfl⟩
    obtain ⟨gb, hgb⟩ : ∃ gb, gb = W2.heap.size := ⟨_, rfl⟩
    rw [← hga] at hlt hw1 ⊢
    rw [← hgb] at hlt hw2 ⊢
    clear hga hgb HB HB2
    rintro W3 ⟨ka, kb, hb⟩
    have KA := Lib.hid ka
    have KB := Lib.hid kb
    have HB3 := Lib.hid hb
    clear ka kb hb
    refine rd 8 (fun K hK => ?_)
    rw [if_pos (by rfl)]
    refine wp_store_mid 36 (.tmp 6) (.tmp 26) rfl ga 0 XF.toArray rfl rfl (blk_there KA.out (by show 0 + XF.length ≤ 12; rw [HLf.out]; exact Nat.le_refl 12)) HSf'.out HOf.out ?_
    have h1 : Blk (W3.setCells ga 0 XF) ga 36 XF.toArray := by
      have := blk_setCells XF (o := 0) KA.out (by rw [HLf.out]; exact Nat.le_refl 12)
      rw [splice_all (by rw [HLf.out]; rfl)] at this
      exact this
    have h2 : Blk (W3.setCells ga 0 XF) gb 36 (cRc zRc).toArray := blk_setFar XF KB.out (by omega)
    have h3 : Below w.heap.size w (W3.setCells ga 0 XF) := below_setCells XF HB3.out (by omega)
    refine hK.out _ _ (HS.out _ h3) (fun hHeld => ?_)
    clear hK K
    refine fin (fun W4 => Blk W4 ga 36 XF.toArray ∧ Blk W4 gb 36 (cRc zRc).toArray ∧ Below w.heap.size w W4) ⟨h1, h2, h3⟩ ?_
    clear hHeld KA KB HB3 h1 h2 h3
    rintro W4 ⟨k6, k7, hb⟩
    have K6 := Lib.hid k6
    have K7 := Lib.hid k7
    have HB4 := Lib.hid hb
    clear k6 k7 hb
    refine rd 9 (fun K hK => ?_)
    rw [if_pos (by rfl)]
    refine wp_store_mid 36 (.tmp 7) (.tmp 29) rfl gb 0 XO.toArray rfl rfl (blk_there K7.out (by show 0 + XO.length ≤ 12; rw [HLo.out]; exact Nat.le_refl 12)) HSo'.out HOo.out ?_
    have h1 : Blk (W4.setCells gb 0 XO) gb 36 XO.toArray := by
      have := blk_setCells XO (o := 0) K7.out (by rw [HLo.out]; exact Nat.le_refl 12)
      rw [splice_all (by rw [HLo.out]; rfl)] at this
      exact this
    have h2 : Blk (W4.setCells gb 0 XO) ga 36 XF.toArray := blk_setFar XO K6.out (by omega)
    have h3 : Below w.heap.size w (W4.setCells gb 0 XO) := below_setCells XO HB4.out (by omega)
    refine hK.out _ _ (HS.out _ h3) (fun hHeld => ?_)
    clear hK K
    refine wpAnyH_done (by kernel_rfl) ?_ _
    exact HK.out _ ga gb h2 h1 (by omega) (by omega) (by omega) h3
  · go_simp
    refine hK.out _ _ (HS.out _ (balloc HB.out _)) (fun hHeld => ?_)
    clear hK K
    refine fin (fun W2 => W.heap.size < W2.heap.size ∧ Blk W2 W.heap.size 36 (cRc zRc).toArray ∧ Below w.heap.size w W2) ⟨by simp, Blk.new _ _ _, balloc HB.out _⟩ ?_
    clear hHeld
    rintro W2 ⟨hlt, ka, hb⟩
    have KA := Lib.hid ka
    have HB2 := Lib.hid hb
    clear ka hb
    refine rd 6 (fun K hK => ?_)
    go_simp
    refine hK.out _ _ (HS.out _ (balloc HB2.out _)) (fun hHeld => ?_)
    clear hK K
    refine fin (fun W3 => Blk W3 W.heap.size 36 (cRc zRc).toArray ∧ Blk W3 W2.heap.size 36 (cRc zRc).toArray ∧ Below w.heap.size w W3) ⟨KA.out.alloc _, Blk.new _ _ _, balloc HB2.out _⟩ ?_
    clear hHeld KA
    have hw1 := HB.out.size
    have hw2 := HB2.out.size
    obtain ⟨ga, hga⟩ : ∃ ga, ga = W.heap.size := ⟨_, rfl⟩
    obtain ⟨gb, hgb⟩ : ∃ gb, gb = W2.heap.size := ⟨_, rfl⟩
    rw [← hga] at hlt hw1 ⊢
    rw [← hgb] at hlt hw2 ⊢
    clear hga hgb HB HB2
    rintro W3 ⟨ka, kb, hb⟩
    have KA := Lib.hid ka
    have KB := Lib.hid kb
    have HB3 := Lib.hid hb
    clear ka kb hb
    refine rd 8 (fun K hK => ?_)
    rw [if_pos (by rfl)]
    refine wp_store_mid 36 (.tmp 6) (.tmp 26) rfl gb 0 XF.toArray rfl rfl (blk_there KB.out (by show 0 + XF.length ≤ 12; rw [HLf.out]; exact Nat.le_refl 12)) HSf'.out HOf.out ?_
    have h1 : Blk (W3.setCells gb 0 XF) gb 36 XF.toArray := by
      have := blk_setCells XF (o := 0) KB.out (by rw [HLf.out]; exact Nat.le_refl 12)
      rw [splice_all (by rw [HLf.out]; rfl)] at this
      exact this
    have h2 : Blk (W3.setCells gb 0 XF) ga 36 (cRc zRc).toArray := blk_setFar XF KA.out (by omega)
    have h3 : Below w.heap.size w (W3.setCells gb 0 XF) := below_setCells XF HB3.out (by omega)
    refine hK.out _ _ (HS.out _ h3) (fun hHeld => ?_)
    clear hK K
    refine fin (fun W4 => Blk W4 gb 36 XF.toArray ∧ Blk W4 ga 36 (cRc zRc).toArray ∧ Below w.heap.size w W4) ⟨h1, h2, h3⟩ ?_
    clear hHeld KA KB HB3 h1 h2 h3
    rintro W4 ⟨k6, k7, hb⟩
    have K6 := Lib.hid k6
    have K7 := Lib.hid k7
    have HB4 := Lib.hid hb
    clear k6 k7 hb
    refine rd 9 (fun K hK => ?_)
    rw [if_pos (by rfl)]
    refine wp_store_mid 36 (.tmp 7) (.tmp 29) rfl ga 0 XO.toArray rfl rfl (blk_there K7.out (by show 0 + XO.length ≤ 12; rw [HLo.out]; exact Nat.le_refl 12)) HSo'.out HOo.out ?_
    have h1 : Blk (W4.setCells ga 0 XO) ga 36 XO.toArray := by
      have := blk_setCells XO (o := 0) K7.out (by rw [HLo.out]; exact Nat.le_refl 12)
      rw [splice_all (by rw [HLo.out]; rfl)] at this
      exact this
    have h2 : Blk (W4.setCells ga 0 XO) gb 36 XF.toArray := blk_setFar XO K6.out (by omega)
    have h3 : Below w.heap.size w (W4.setCells ga 0 XO) := below_setCells XO HB4.out (by omega)
    refine hK.out _ _ (HS.out _ h3) (fun hHeld => ?_)
    clear hK K
    refine wpAnyH_done (by kernel_rfl) ?_ _
    exact HK.out _ gb ga h2 h1 (by omega) (by omega) (by omega) h3
end Go.Proofs.Ytffbehcbokmpkaa
