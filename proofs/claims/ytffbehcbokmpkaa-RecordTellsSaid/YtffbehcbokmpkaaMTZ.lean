/-
  RecordTells answers true for every entity, parts and state: the record of it is as the document says, or the error. No conditions.
-/
import Derived.Test.YtffbehcbokmpkaaMT25
namespace Go.Proofs.Ytffbehcbokmpkaa.recordTells
open Go.ChangeShapes Go.WideShapes Go.ChangeAt Go.RowKit Go.Deep
set_option linter.unusedVariables false
theorem own : ownKnob Try.prog.godebug = none := by kernel_rfl
theorem laidOut : laidOutB Try.prog = true := by kernel_rfl
theorem wp_bsR1 {op : Oper} {a : Go.Act} {w : World} {K : Go.Act → World → Prop} {Q : Exit → Go.Act → World → Prop} (t e : TypeId) (x : Operand) (ho : op.op = .buildSlice t 1 #[(0, x)]) (X : List Value) (hx : a.eval x = .agg X.toArray)
    (hrun : ∀ W, (Instr.buildSlice t 1 #[(0, .agg X.toArray)]).run Try.prog W = .ok (.slice (some ⟨W.heap.size, 0, none⟩) 1 1) (W.alloc (.cells X.toArray e)))
    (h : K (a.put op.dst (.slice (some ⟨w.heap.size, 0, none⟩) 1 1)) (w.alloc (.cells X.toArray e))) : op.wp Try.prog a w K Q := by
  unfold Oper.wp execOp
  simp only [ho]
  simp [hx, hrun]
  exact h
set_option maxHeartbeats 16000000 in
set_option maxRecDepth 100000 in
theorem walk (x : Int) (P : PT) (M : Nat → Int) (s : Bool) (w : World) :
    Calls Try.prog 3 #[.int .i64 x, .agg (pl P).toArray, .agg (lS M s).toArray] w fun e w' => e = .returned (.bool true) ∧ Below w.heap.size w w' := by
  have HOf := Lib.hid (rcof_any x P M s)
  have HGo := Lib.hid (gof12_any x P M s)
  have k4 := (Blk.new w 32 (pl P).toArray).alloc (.cells (lS M s).toArray 34)
  have k5 := Blk.new (w.alloc (.cells (pl P).toArray 32)) 34 (lS M s).toArray
  have s1 : (w.alloc (.cells (pl P).toArray 32)).heap.size = w.heap.size + 1 := by simp
  rw [s1] at k5
  have HW0 := Lib.hid (And.intro k4 (And.intro k5 (balloc (alloc_below w (.cells (pl P).toArray 32)) (.cells (lS M s).toArray 34))))
  have HC5 : Hid (∀ W g, Blk W g 34 (lS M s).toArray → W.cell? ⟨g, 12, none⟩ = some (.bool s) ∧ W.rangeAt g 0 (lM12 M)) := Lib.hid (fun W g k => ⟨k.cell 12, blk_range k 0 12⟩)
  have HSp : Hid ((Try.prog.info? 32).map (·.size) = some (pl P).length) := Lib.hid (pl_size P)
  have HSs : Hid ((Try.prog.info? 34).map (·.size) = some (lS M s).length) := Lib.hid (by kernel_rfl)
  have HSm : Hid ((Try.prog.info? 26).map (·.size) = some (lM12 M).length) := Lib.hid (by kernel_rfl)
  obtain ⟨r, hr⟩ : ∃ r, r = ovR x M P s := ⟨_, rfl⟩
  obtain ⟨ob, hob⟩ : ∃ ob, ob = obR M P s := ⟨_, rfl⟩
  obtain ⟨oe, hoe⟩ : ∃ oe, oe = oeR M P s := ⟨_, rfl⟩
  rw [← hr, ← hob, ← hoe] at HOf HGo
  have HSr := Lib.hid (And.intro (rc_size r) (rf_size r))
  have HOr := Lib.hid (And.intro (rc_all r) (cRc_len r))
  have HEq : Hid (∀ w, (Op.equalIn 10000 40 (.agg (cRc r).toArray) (.agg (cRc r).toArray)).run Try.prog w = .ok true w) := Lib.hid (fun w => by rw [eqRcG, eqRc_self])
  have HBs := Lib.hid (bs_rc1 r)
  have HLo : Hid (∀ W g, Blk W g 36 (cRc r).toArray → Calls Try.prog 9 #[.slice (some ⟨g, 0, none⟩) 1 1] W fun e w' => ∃ b cap, e = .returned (.slice (some ⟨b, 0, none⟩) 1 cap) ∧ w'.rangeAt b 0 (cRc r) ∧ b < w'.heap.size ∧ Below W.heap.size W w') := Lib.hid (fun W g k => by
    refine (gof_any (some ⟨g, 0, none⟩) 1 1 [r] W ⟨rfl, by omega, Or.inr ⟨g, 0, rfl, k.lt, fun i z hz => ?_⟩⟩ (by omega)).mono ?_
    · match i, hz with
      | 0, hz =>
        injection hz with hz
        subst hz
        exact blk_whole k
    · rintro e w' ⟨v, rfl, ho, hb⟩
      obtain ⟨b, cap, rfl, _, _, _, hrg⟩ := row_of ho Nat.zero_lt_one
      exact ⟨b, cap, rfl, hrg 0 r rfl, (ho.lt b rfl).2, hb⟩)
  obtain ⟨XP, hXP⟩ : ∃ XP, XP = pl P := ⟨_, rfl⟩
  obtain ⟨XS, hXS⟩ : ∃ XS, XS = lS M s := ⟨_, rfl⟩
  obtain ⟨XM, hXM⟩ : ∃ XM, XM = lM12 M := ⟨_, rfl⟩
  obtain ⟨XR, hXR⟩ : ∃ XR, XR = cRc r := ⟨_, rfl⟩
  rw [← hXP] at HOf HGo HW0 HSp ⊢
  rw [← hXS] at HOf HW0 HC5 HSs ⊢
  rw [← hXM] at HGo HC5 HSm
  rw [← hXR] at HOf HGo HSr HOr HEq HBs HLo
  have HSr' : Hid (((Try.prog.info? 36).map (·.size) = some XR.toArray.size) ∧ ((Try.prog.info? 40).map (·.size) = some XR.toArray.size)) := HSr
  clear hXP hXS hXM hXR hr hob hoe k4 k5 s1
  go_enter Try.func3, Try.ntmps3
  go_upto_region 1 with fail
  refine fin (fun W => Blk W w.heap.size 32 XP.toArray ∧ Blk W (w.heap.size + 1) 34 XS.toArray ∧ Below w.heap.size w W) HW0.out ?_
  clear HW0
  rintro W0 ⟨k4, k5, hb⟩
  have K4 := Lib.hid k4
  have K5 := Lib.hid k5
  have HB := Lib.hid hb
  clear k4 k5 hb
  go_wp2_with (first
    | refine wpList_load_mid rfl 32 (.tmp 4) rfl w.heap.size 0 rfl XP _ (blk_whole K4.out) Try.underlying32 rfl HSp.out ?_
    | refine wpList_load_mid rfl 34 (.tmp 5) rfl (w.heap.size + 1) 0 rfl XS _ (blk_whole K5.out) Try.underlying34 rfl HSs.out ?_)
  refine (HOf.out _).mono ?_
  rintro e w1 ⟨rfl, hb⟩
  have K4b := Lib.hid (K4.out.keep hb)
  have K5b := Lib.hid (K5.out.keep hb)
  have HBb := Lib.hid (bthen HB.out hb)
  clear hb K4 K5 HB HOf
  have KN := Blk.new w1 36 (cRc zRc).toArray
  have HTh : Hid ((w1.alloc (.cells (cRc zRc).toArray 36)).there w1.heap.size 0 XR.toArray.size) := Lib.hid (blk_there KN (by show 0 + XR.length ≤ 12; rw [HOr.out.2]; exact Nat.le_refl 12))
  have HW2 : Hid (Blk ((w1.alloc (.cells (cRc zRc).toArray 36)).setCells w1.heap.size 0 XR) w.heap.size 32 XP.toArray ∧ Blk ((w1.alloc (.cells (cRc zRc).toArray 36)).setCells w1.heap.size 0 XR) (w.heap.size + 1) 34 XS.toArray ∧ Blk ((w1.alloc (.cells (cRc zRc).toArray 36)).setCells w1.heap.size 0 XR) w1.heap.size 36 XR.toArray ∧ Below w.heap.size w ((w1.alloc (.cells (cRc zRc).toArray 36)).setCells w1.heap.size 0 XR)) := Lib.hid (by
    have hbel : Below w1.heap.size w1 ((w1.alloc (.cells (cRc zRc).toArray 36)).setCells w1.heap.size 0 XR) := below_setCells _ (alloc_below _ _) (Nat.le_refl _)
    have q := blk_setCells XR (o := 0) KN (by rw [HOr.out.2]; exact Nat.le_refl 12)
    rw [splice_all (by rw [HOr.out.2]; rfl)] at q
    exact ⟨K4b.out.keep hbel, K5b.out.keep hbel, q, bthen HBb.out hbel⟩)
  clear KN
  go_upto_region 2 with (refine wpList_store_mid rfl 36 (.tmp 7) (.tmp 18) rfl w1.heap.size 0 XR.toArray rfl rfl HTh.out HSr'.out.1 HOr.out.1 ?_)
  refine fin (fun W => Blk W w.heap.size 32 XP.toArray ∧ Blk W (w.heap.size + 1) 34 XS.toArray ∧ Blk W w1.heap.size 36 XR.toArray ∧ Below w.heap.size w W) HW2.out ?_
  obtain ⟨g7, hg7⟩ : ∃ g7, g7 = w1.heap.size := ⟨_, rfl⟩
  rw [← hg7]
  clear HW2 HTh hg7 K4b K5b HBb
  rintro W2 ⟨k4, k5, k7, hb⟩
  have K4 := Lib.hid k4
  have K7 := Lib.hid k7
  have HB := Lib.hid hb
  obtain ⟨c12, hr0⟩ := HC5.out _ _ k5
  have HR0 := Lib.hid hr0
  have hl5 := k5.lt
  clear k4 k5 k7 hb hr0
  go_wp2_with (first
    | refine wpList_load_mid rfl 32 (.tmp 4) rfl w.heap.size 0 rfl XP _ (blk_whole K4.out) Try.underlying32 rfl HSp.out ?_
    | refine wpList_load_mid rfl 26 (.tmp 24) rfl (w.heap.size + 1) 0 rfl XM _ HR0.out Try.underlying26 rfl HSm.out ?_)
  refine (HGo.out _).mono ?_
  rintro e w3 ⟨rfl, hb⟩
  have K7b := Lib.hid (K7.out.keep hb)
  have HBb := Lib.hid (bthen HB.out hb)
  clear hb K4 K7 HB HGo c12 hl5 HR0
  have KN := Blk.new w3 40 (cRc zRc).toArray
  have HTh : Hid ((w3.alloc (.cells (cRc zRc).toArray 40)).there w3.heap.size 0 XR.toArray.size) := Lib.hid (blk_there KN (by show 0 + XR.length ≤ 12; rw [HOr.out.2]; exact Nat.le_refl 12))
  have HW4 : Hid (Blk ((w3.alloc (.cells (cRc zRc).toArray 40)).setCells w3.heap.size 0 XR) g7 36 XR.toArray ∧ Blk ((w3.alloc (.cells (cRc zRc).toArray 40)).setCells w3.heap.size 0 XR) w3.heap.size 40 XR.toArray ∧ Below w.heap.size w ((w3.alloc (.cells (cRc zRc).toArray 40)).setCells w3.heap.size 0 XR)) := Lib.hid (by
    have hbel : Below w3.heap.size w3 ((w3.alloc (.cells (cRc zRc).toArray 40)).setCells w3.heap.size 0 XR) := below_setCells _ (alloc_below _ _) (Nat.le_refl _)
    have q := blk_setCells XR (o := 0) KN (by rw [HOr.out.2]; exact Nat.le_refl 12)
    rw [splice_all (by rw [HOr.out.2]; rfl)] at q
    exact ⟨K7b.out.keep hbel, q, bthen HBb.out hbel⟩)
  clear KN
  go_upto_region 3 with (refine wpList_store_mid rfl 40 (.tmp 10) (.tmp 29) rfl w3.heap.size 0 XR.toArray rfl rfl HTh.out HSr'.out.2 HOr.out.1 ?_)
  refine fin (fun W => Blk W g7 36 XR.toArray ∧ Blk W w3.heap.size 40 XR.toArray ∧ Below w.heap.size w W) HW4.out ?_
  obtain ⟨g10, hg10⟩ : ∃ g10, g10 = w3.heap.size := ⟨_, rfl⟩
  rw [← hg10]
  clear HW4 HTh hg10 K7b HBb
  rintro W5 ⟨k7, k10, hb⟩
  have HK : Hid (∀ W, Below W5.heap.size W5 W → W.rangeAt g7 0 XR ∧ W.rangeAt g10 0 XR) := Lib.hid (fun W q => ⟨blk_whole (k7.keep q), blk_whole (k10.keep q)⟩)
  have HB := Lib.hid hb
  clear k7 k10 hb
  refine wp_region_held_drew (S := fun w' => w'.rangeAt g7 0 XR ∧ w'.rangeAt g10 0 XR) (by kernel_rfl) (HK.out _ (bdrew (Below.refl _ _))) (fun hHeld => ?_)
  refine fin (fun W => Below W5.heap.size W5 W) (bdrew (Below.refl _ _)) ?_
  clear hHeld
  rintro y0 b0
  have B0 := Lib.hid b0
  clear b0
  refine rd 0 (fun K hK => ?_)
  go_simp
  go_at_call 8
  refine (alive12_any _).mono ?_
  rintro e y1 ⟨rfl, b1⟩
  go_wp2_with fail
  refine hK.out _ _ (HK.out _ (bthen B0.out b1)) (fun hHeld => ?_)
  clear hK K
  have B1 := Lib.hid (bthen B0.out b1)
  clear b1 B0
  refine tk 1 hHeld ?_
  refine tkl 2 rfl (yieldsIf_load_mid (by rfl) _ _ rfl _ _ rfl _ _ (fun _ h => h.1) Try.underlying36 rfl HSr.out.1) hHeld ?_
  refine tkl 7 rfl (yieldsIf_load_mid (by rfl) _ _ rfl _ _ rfl _ _ (fun _ h => h.2) Try.underlying40 rfl HSr.out.2) hHeld ?_
  refine rd 3 (fun K hK => ?_)
  rw [if_pos (by rfl)]
  refine wp_bsR1 46 36 (.tmp 34) rfl XR rfl HBs.out ?_
  refine hK.out _ _ (HK.out _ (balloc B1.out _)) (fun hHeld => ?_)
  clear hK K
  simp only [Act.put, List.getElem_toArray, List.getElem_cons_zero, List.getElem_cons_succ, List.setIfInBounds_toArray, List.set_cons_zero, List.set_cons_succ]
  have HCal := Lib.hid (HLo.out _ y1.heap.size (Blk.new y1 36 XR.toArray))
  refine rd 4 (fun K hK => ?_)
  go_simp
  go_at_call 9
  refine HCal.out.mono ?_
  rintro e y2 ⟨b, cap, rfl, hrg, hbl, b1⟩
  go_wp2_with fail
  refine hK.out _ _ (HK.out _ (bthen (balloc B1.out _) b1)) (fun hHeld => ?_)
  clear hK K
  have B2 := Lib.hid (bthen (balloc B1.out (.cells XR.toArray 36)) b1)
  have HRg := Lib.hid hrg
  clear b1 B1 HCal hrg
  refine tk 5 hHeld ?_
  refine rd 6 (fun K hK => ?_)
  rw [if_pos (by rfl)]
  refine wp_load_mid 40 (.tmp 37) rfl b 0 rfl XR _ HRg.out Try.underlying40 rfl HSr.out.2 ?_
  refine hK.out _ _ (HK.out _ B2.out) (fun hHeld => ?_)
  clear hK K
  simp only [Act.put, List.getElem_toArray, List.getElem_cons_zero, List.getElem_cons_succ, List.setIfInBounds_toArray, List.set_cons_zero, List.set_cons_succ]
  have heq := HEq.out
  refine tk 8 hHeld ?_
  clear heq
  refine tk 9 hHeld ?_
  refine tk 10 hHeld ?_
  refine tk 11 hHeld ?_
  refine tk 12 hHeld ?_
  refine tk 13 hHeld ?_
  refine tk 14 hHeld ?_
  refine tk 15 hHeld ?_
  refine tk 16 hHeld ?_
  refine tk 17 hHeld ?_
  refine tk 18 hHeld ?_
  refine tk 19 hHeld ?_
  refine tk 20 hHeld ?_
  refine wpAnyH_done (by kernel_rfl) ?_ _
  clear hHeld
  have HBf := Lib.hid (bthen HB.out B2.out)
  go_wp2
  go_ret
  exact ⟨rfl, HBf.out⟩
set_option maxRecDepth 100000 in
theorem lifted (os : Os) (started : os.Started) (H : Type) (enc : TypeId × Value → H) :
    ReturnsInHanded {} Try.checked os 3 .any (Rows.recordTellsSpec.pre6 enc Try.prog Try.f3 Rows.recordTellsRow.domain false) (Rows.recordTellsSpec.post enc Try.prog Try.f3 false true false false) := by
  refine returnsInHanded_of_change (C := Try.checked) own started (by kernel_rfl) Try.func3
    (ChangeSpec.witness6 (enc := enc) (C := Try.checked) false ⟨#[], #[.int .i64 0, .agg (pl (0, (fun _ => 0), 0, (fun _ => 0), 0, 0, false, 0)).toArray, .agg (lS (fun _ => 0) false).toArray], []⟩ 8 (by kernel_rfl) (by kernel_rfl) (by kernel_rfl) (by kernel_rfl)) ?_
  intro W base args ds gs before hval0 hW hcnd _
  have hval : ∀ (j : Nat) t v, Try.f3.params[j]? = some t → args[j]? = some v → Value.okWide Try.prog W .any base t v := hval0
  have hW' := hW
  obtain ⟨p, q, hA0, hV, rfl, hfz, hnd⟩ := hW
  have hA : DataW.TrodAll enc Try.prog W 0 (fun _ => true) true Try.f3.params.toList args.toList ds p := hA0
  rw [Try.params3] at hA hval
  obtain ⟨v0, vs0, d0, ds0, p0, q0, hargs, rfl, rfl, h0, r0⟩ := trodAll_cons hA
  obtain ⟨v1, vs1, d1, ds1, p1, q1, rfl, rfl, rfl, h1, r1⟩ := trodAll_cons r0
  obtain ⟨v2, vs2, d2, ds2, p2, q2, rfl, rfl, rfl, h2, r2⟩ := trodAll_cons r1
  obtain ⟨rfl, rfl, rfl⟩ := trodAll_nil r2
  obtain rfl : args = #[v0, v1, v2] := by cases args; simp_all
  obtain ⟨rfl, rfl⟩ := trodVars_none hV
  obtain ⟨x0, rfl, rfl, rfl, wx⟩ := open_int Try.underlying22 (hval 0 22 v0 rfl rfl) h0
  have k1 := h1
  have lt1 : ∀ x ∈ p1, x.block < W.heap.size := by obtain ⟨m, hm⟩ := k1; exact DataW.trod_lt m _ _ _ hm
  have k2 := h2
  have lt2 : ∀ x ∈ p2, x.block < W.heap.size := by obtain ⟨m, hm⟩ := k2; exact DataW.trod_lt m _ _ _ hm
  obtain ⟨P, rfl⟩ := open_parts12 (hval 1 32 v1 rfl rfl) h1
  obtain ⟨M, s, rfl⟩ := open_state12 (hval 2 34 v2 rfl rfl) h2
  clear hA0 hval0
  refine (walk x0 P M s W).mono fun e W' ⟨he, bel⟩ => ?_
  subst he
  exact ⟨_, rfl, _, _, _, [], _, [], hW', trodAll_mk1 (shut_bool Try.underlying4 _), (trodAll_cons_mk (shut_int Try.underlying22 wx) (trodAll_cons_mk (Below.trod laidOut (by kernel_rfl) (of_decide_eq_true (by kernel_rfl)) k1 bel lt1) (trodAll_cons_mk (Below.trod laidOut (by kernel_rfl) (of_decide_eq_true (by kernel_rfl)) k2 bel lt2) trodAll_mk0))), rfl, bel.frame _, fun h => by cases h⟩

theorem over : Rows.recordTellsRow.holds Try.pinned (OpenSpec.ofChange Rows.recordTellsSpec) :=
  OpenClaim.holds_of_wide 3 Try.f3 rfl rfl rfl rfl rfl rfl rfl ⟨rfl, rfl, rfl, rfl, rfl⟩ rfl rfl rfl rfl rfl (by kernel_rfl) Try.func3 (by kernel_rfl)
    (of_decide_eq_true (by kernel_rfl)) (by unfold Func.isWrapper; first | (rw [if_pos (by decide +kernel)]; kernel_rfl) | (rw [if_neg (by decide +kernel)]; exact ⟨rfl, rfl⟩))
    (fun os started H enc _ => lifted os started H enc)

end Go.Proofs.Ytffbehcbokmpkaa.recordTells
namespace Go.Proofs.Ytffbehcbokmpkaa
theorem recordTells_holds : Rows.RecordTellsSaid := recordTells.over
#print axioms recordTells_holds
end Go.Proofs.Ytffbehcbokmpkaa
