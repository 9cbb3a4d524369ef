/-
  3 texts in one file, each with its own heading.
-/
import Derived.Test.YtjcibffhlhdjeaaMU20
import Derived.Test.YtjcibffhlhdjeaaMU21
import Derived.Test.YtjcibffhlhdjeaaMU18
import Derived.Test.YtjcibffhlhdjeaaMU11
/-
  What the reference's Look of layer 15 answers, and makes of the cull.
-/
namespace Go.Proofs.Ytjcibffhlhdjeaa
open Go.RowKit

theorem bs_vw (s : Value) (E : Nat → Int) (m : Int) (W : World) : (Instr.buildSlice 28 1 #[(0, .agg (cVw s E m).toArray)]).run Try.prog W = .ok (.slice (some ⟨W.heap.size, 0, none⟩) 1 1) (W.alloc (.cells (cVw s E m).toArray 42)) := by kernel_rfl
section
variable {w : World} {g : Nat} {U : Ku} {F : Nat → Prop}
set_option maxHeartbeats 16000000 in
set_option maxRecDepth 100000 in
theorem rlook_any (h0 : RKB w g F U) (hn : U.R.length ≤ 1000) (a : Option Addr) (n cap : Nat) (X : List (Nat → Int)) (E : Nat → Int) (m : Int) (row : PlRow w a n X) (hX : n ≤ 100000) :
    Calls Try.prog 16 #[.pointer (some ⟨g, 0, none⟩), .agg (cVw (.slice a n cap) E m).toArray] w fun e w' => e = .returned (.tuple #[.bool (lookA U ⟨X, E, m⟩).1, .int .i64 (lookA U ⟨X, E, m⟩).2]) ∧ ChX RKB w w' g F (lookS U ⟨X, E, m⟩) := by
  have HSt : Hid (∀ u, Below w.heap.size w u → ChX RKB w u g F U) := Lib.hid (fun u q => ChX.still (h0.keep q) q)
  have HN := Lib.hid hn
  obtain ⟨vV, vs, vR, vD, vS, st, h, hF⟩ := h0
  have HH := Lib.hid h
  have HFt := Lib.hid hF
  have HRow := Lib.hid row
  obtain ⟨ok, hok⟩ : ∃ ok, okVw ⟨X, E, m⟩ = ok := ⟨_, rfl⟩
  have HRt : Hid (∀ W, PlRow W a n X → Calls Try.prog 29 #[.agg (cVw (.slice a n cap) E m).toArray] W fun e w' => e = .returned (.bool ok) ∧ Below W.heap.size W w') := Lib.hid (fun W r => rviwright_b r hok)
  have HOk := Lib.hid hok
  have HVz := Lib.hid (vw_size (.slice a n cap) E m)
  have HB0 : Hid (Below w.heap.size w (w.alloc (.cells (cVw (.slice a n cap) E m).toArray 42))) := Lib.hid (alloc_below _ _)
  have HK0 := Lib.hid (Blk.new w 42 (cVw (.slice a n cap) E m).toArray)
  have HC8 : Hid (∀ W, Blk W w.heap.size 42 (cVw (.slice a n cap) E m).toArray → W.cell? ⟨w.heap.size, 0, none⟩ = some (.slice a n cap)) := Lib.hid (fun W k => k.cell 0)
  have HV9 : Hid (∀ W v', Blk W w.heap.size 42 (cVw (.slice a n cap) E m).toArray → Blk (W.setCell ⟨w.heap.size, 0, none⟩ v') w.heap.size 42 (cVw v' E m).toArray) := Lib.hid (fun W v' k => k.set_ 0 v')
  have HSm : Hid (∀ (W : World) (a' : Option Addr) (n' cap' : Nat) (u : Vw), PlRow W a' n' u.ps → PlRow W a n X → Calls Try.prog 30 #[.agg (cVw (.slice a' n' cap') u.eye u.m).toArray, .agg (cVw (.slice a n cap) E m).toArray] W fun e w' => e = .returned (.bool (sameV u ⟨X, E, m⟩)) ∧ Below W.heap.size W w') := Lib.hid (fun W a' n' cap' u r r' => rsame14_any a' n' cap' u.ps u.eye u.m a n cap X E m W r r')
  obtain ⟨XV, hXV⟩ : ∃ XV, XV = cVw (.slice a n cap) E m := ⟨_, rfl⟩
  rw [← hXV] at HRt HVz HB0 HK0 HC8 HV9 HSm ⊢
  have hv := h.vw
  have HNo : Hid (ok = false → lookA U ⟨X, E, m⟩ = (false, 1) ∧ lookS U ⟨X, E, m⟩ = U) := Lib.hid (fun q => look_bad (hok.trans q))
  have HSa : Hid (ok = true → sameO U.V ⟨X, E, m⟩ = true → lookA U ⟨X, E, m⟩ = (false, 0) ∧ lookS U ⟨X, E, m⟩ = U) := Lib.hid (fun q k => look_same (hok.trans q) k)
  have HNw : Hid (ok = true → sameO U.V ⟨X, E, m⟩ = false → lookA U ⟨X, E, m⟩ = (true, 0) ∧ lookS U ⟨X, E, m⟩ = { U with V := some ⟨X, E, m⟩, D := U.R.map Rc.id }) := Lib.hid (fun q k => look_new (hok.trans q) k)
  clear h hF row hok hXV hn
  go_enter Try.func16, Try.ntmps16
  go_upto_region 1 with fail
  refine fin (fun W => Below w.heap.size w W ∧ Blk W w.heap.size 42 XV.toArray) ⟨HB0.out, HK0.out⟩ ?_
  clear HB0 HK0
  rintro W0 ⟨b0, k0⟩
  have HB0 := Lib.hid b0
  have HK0 := Lib.hid k0
  have HR0 : Hid (W0.rangeAt w.heap.size 0 XV) := Lib.hid (blk_whole k0)
  have z0 := k0.lt
  clear b0 k0
  go_wp2_with (refine wpList_load_mid rfl 42 (.tmp 3) rfl w.heap.size 0 rfl XV _ HR0.out Try.underlying42 rfl HVz.out ?_)
  refine (HRt.out _ (HRow.out.keep HB0.out)).mono ?_
  rintro e W1 ⟨rfl, b1⟩
  have HB1 : Hid (Below w.heap.size w W1) := Lib.hid (bthen HB0.out b1)
  have HK1 := Lib.hid (HK0.out.keep b1)
  clear HB0 HK0 HR0 z0 b1 HRt
  cases ok with
  | false =>
    have HS := Lib.hid (HSt.out _ HB1.out)
    have HE := Lib.hid (HNo.out rfl)
    go_wp2
    go_ret2
    exact ⟨by rw [HE.out.1]; rfl, by rw [HE.out.2]; exact HS.out⟩
  | true =>
    have c0 : W1.cell? ⟨g, 0, none⟩ = some vV := (HH.out.keep HB1.out).blk.cell 0
    have hg1 := (HH.out.keep HB1.out).blk.lt
    cases e : U.V with
    | none =>
      rw [e] at hv
      obtain ⟨rfl, rfl⟩ := hv
      have HNew := Lib.hid (HNw.out rfl (by rw [e]; rfl))
      clear HNo HSa HNw HSm HSt HOk e
      go_upto_region 8 with fail
      clear c0 hg1
      have HRw8 := Lib.hid (HRow.out.keep (bthen HB1.out (alloc_below W1 (.cells #[] 40))))
      have HO8 : Hid (OwnX 4 cPl 40 (W1.alloc (.cells #[] 40)) W1.heap.size (.slice (some ⟨W1.heap.size, 0, none⟩) 0 0) ([] : List (Nat → Int))) := Lib.hid ⟨by simp, Or.inr ⟨W1.heap.size, 0, #[], rfl, Nat.le_refl _, Blk.new _ _ _, Nat.le_refl _, Nat.zero_le _, by simp, by simp⟩⟩
      have hbs := bs_nonePl W1
      have hcv : (W1.alloc (.cells #[] 40)).cell? ⟨w.heap.size, 0, none⟩ = some (.slice a n cap) := HC8.out _ (HK1.out.keep (alloc_below _ _))
      have hz1 : w.heap.size < W1.heap.size := HK1.out.lt
      go_wp2_with (at_builtin; refine wpList_appendR rfl (.tmp 28) (.tmp 30) 35 32 (.agg #[.int .i64 0, .int .i64 0, .int .i64 0, .int .i64 0]) rfl Try.underlying35 zPl2_info rfl (by decide) (by decide) cPl_len cPl_one rfl HO8.out a n cap rfl HRw8.out (by simp; omega) (by simp) ?_)
      intro v' W2 k1 k2 _
      obtain ⟨sa, sc, rfl, -⟩ := k1.row cPl_len
      obtain ⟨xl, hxl⟩ : ∃ xl, xl = X.length := ⟨_, rfl⟩
      rw [← hxl] at k1 ⊢
      clear hxl
      have HB2 : Hid (Below W1.heap.size W1 W2) := Lib.hid (grown_below2 (alloc_below _ _) k2 (fun b e => by simp [Value.ownBlock] at e; omega))
      have HK2 := Lib.hid (HK1.out.keep HB2.out)
      have HO2 : Hid (OwnX 4 cPl 40 W2 W1.heap.size (.slice sa xl sc) X) := Lib.hid k1
      have hcv2 : W2.cell? ⟨w.heap.size, 0, none⟩ = some (.slice a n cap) := HC8.out _ HK2.out
      have hfv2 := HK2.out.frozen 0
      have hz2 : w.heap.size < W2.heap.size := HK2.out.lt
      clear k1 k2 hcv hbs HRw8 HO8
      have HS9 : Hid (Blk (W2.setCell ⟨w.heap.size, 0, none⟩ (.slice sa xl sc)) w.heap.size 42 (cVw (.slice sa xl sc) E m).toArray ∧ OwnX 4 cPl 40 (W2.setCell ⟨w.heap.size, 0, none⟩ (.slice sa xl sc)) w.heap.size (.slice sa xl sc) X ∧ Below w.heap.size w (W2.setCell ⟨w.heap.size, 0, none⟩ (.slice sa xl sc))) := Lib.hid ⟨HV9.out _ _ HK2.out, (HO2.out.low (Nat.le_of_lt hz1)).same (fun b e => set_at (fun q => by have := (HO2.out.lt b e).1; omega)), (bthen HB1.out HB2.out).setCell (Nat.le_refl _) _⟩
      go_upto_region 10 with fail
      refine fin (fun W => Blk W w.heap.size 42 (cVw (.slice sa xl sc) E m).toArray ∧ OwnX 4 cPl 40 W w.heap.size (.slice sa xl sc) X ∧ Below w.heap.size w W) HS9.out ?_
      clear HS9 HK2 HO2 HB2 HK1 HB1 hcv2 hfv2 hz1 hz2
      rintro W3 ⟨k3, o3, b3⟩
      have HK3 := Lib.hid k3
      have HB3 := Lib.hid b3
      have HVs := Lib.hid (vw_size (.slice sa xl sc) E m)
      have HBs := Lib.hid (bs_vw (.slice sa xl sc) E m)
      have hal : Below W3.heap.size W3 (W3.alloc (.cells (cVw (.slice sa xl sc) E m).toArray 42)) := alloc_below _ _
      have HSl := Lib.hid (HH.out.setV HFt.out (bthen b3 hal) (v := .slice (some ⟨W3.heap.size, 0, none⟩) 1 1) (s := .slice sa xl sc) (V' := some ⟨X, E, m⟩) ⟨W3.heap.size, rfl, Blk.new W3 _ _, (o3.low (Nat.zero_le _)).keep hal⟩ (fun b q => by
        injection q with q
        rw [← q]; exact b3.size) (fun b q => (o3.lt b q).1))
      have hc10 : (W3.alloc (.cells (cVw (.slice sa xl sc) E m).toArray 42)).cell? ⟨g, 0, none⟩ = some (.slice none 0 0) := (HH.out.keep (bthen b3 hal)).blk.cell 0
      have hf10 := (HH.out.keep (bthen b3 hal)).blk.frozen 0
      have hg10 : g < (W3.alloc (.cells (cVw (.slice sa xl sc) E m).toArray 42)).heap.size := (HH.out.keep (bthen b3 hal)).blk.lt
      have hg11 : g < W3.heap.size := (HH.out.keep b3).blk.lt
      obtain ⟨XW, hXW⟩ : ∃ XW, XW = cVw (.slice sa xl sc) E m := ⟨_, rfl⟩
      rw [← hXW] at HK3 HVs HBs HSl hc10 hf10 hg10
      have HR3 : Hid (W3.rangeAt w.heap.size 0 XW) := Lib.hid (blk_whole HK3.out)
      rw [World.setCell_alloc_past (w := W3) (.cells XW.toArray 42) g 0 (.slice (some ⟨W3.heap.size, 0, none⟩) 1 1) hg11] at HSl
      clear k3 o3 b3 hal hXW
      go_upto_region 11 with (first
        | refine wpList_load_mid rfl 42 (.tmp 3) rfl w.heap.size 0 rfl XW _ HR3.out Try.underlying42 rfl HVs.out ?_
        | refine wpList_bs8 rfl 28 42 (.tmp 35) rfl XW rfl HBs.out ?_)
      refine fin (fun W => ChX RKB w W g F { U with V := some ⟨X, E, m⟩ }) ⟨_, ⟨_, _, _, _, _, _, HSl.out.1, fun _ => Iff.rfl⟩, HSl.out.2.1, HSl.out.2.2⟩ ?_
      clear HSl hc10 hf10 hg10 hg11 HR3 HVs HBs HK3 HB3 HH HFt
      rintro W4 ⟨F4, h4, fr4, sub4⟩
      have HJ := Lib.hid (And.intro fr4 sub4)
      have HA4 := Lib.hid (rall_any h4 HN.out)
      clear h4 fr4 sub4
      go_wp2_with fail
      refine HA4.out.mono ?_
      rintro e w5 ⟨rfl, h5⟩
      have H5 : Hid (ChX RKB w w5 g F { U with V := some ⟨X, E, m⟩, D := U.R.map Rc.id }) := Lib.hid (ChX.join HJ.out.1 HJ.out.2 h5)
      clear HA4 h5 HJ
      go_wp2
      go_ret2
      exact ⟨by rw [HNew.out.1]; rfl, by rw [HNew.out.2]; exact H5.out⟩
    | some u =>
      rw [e] at hv
      obtain ⟨bv, rfl, kb, ob⟩ := hv
      obtain ⟨a', cap', rfl, _, _, row'⟩ := ob.row cPl_len
      have HRow' := Lib.hid (row'.keep HB1.out)
      have HXu := Lib.hid (vw_size (.slice a' u.ps.length cap') u.eye u.m)
      have HRu : Hid (W1.rangeAt bv 0 (cVw (.slice a' u.ps.length cap') u.eye u.m)) := Lib.hid (blk_whole (kb.keep HB1.out))
      have HS5 := Lib.hid (fun W r r' => HSm.out W a' u.ps.length cap' u r r')
      obtain ⟨q, hq⟩ : ∃ q, q = u.ps.length := ⟨_, rfl⟩
      obtain ⟨XU, hXU⟩ : ∃ XU, XU = cVw (.slice a' u.ps.length cap') u.eye u.m := ⟨_, rfl⟩
      obtain ⟨sb, hsb⟩ : ∃ sb, sb = sameV u ⟨X, E, m⟩ := ⟨_, rfl⟩
      have HSo : Hid (sameO U.V ⟨X, E, m⟩ = sb) := Lib.hid (by rw [e, hsb]; rfl)
      rw [← hXU] at HXu HRu HS5
      rw [← hsb] at HS5
      have hbl := (kb.keep HB1.out).lt
      have z1 := HK1.out.lt
      have HX5 : Hid (W1.cell? ⟨g, 0, none⟩ = some (.slice (some ⟨bv, 0, none⟩) 1 1) ∧ W1.rangeAt bv 0 XU ∧ W1.rangeAt w.heap.size 0 XV) := Lib.hid ⟨c0, HRu.out, blk_whole HK1.out⟩
      clear HSm HOk e kb ob row' hq hXU hsb HRu
      go_upto_region 5 with fail
      refine wp_region_held_drew (S := fun w' => w'.cell? ⟨g, 0, none⟩ = some (.slice (some ⟨bv, 0, none⟩) 1 1) ∧ w'.rangeAt bv 0 XU ∧ w'.rangeAt w.heap.size 0 XV) (by kernel_rfl) (HX5.out) (fun hHeld => ?_)
      refine tk 0 hHeld ?_
      refine tk 1 hHeld ?_
      refine tk 2 hHeld ?_
      refine tk 3 hHeld ?_
      refine tk 4 hHeld ?_
      refine tkl 5 rfl (yieldsIf_load_mid (by rfl) _ _ rfl _ _ rfl _ _ (fun _ h => h.2.1) Try.underlying42 rfl HXu.out) hHeld ?_
      refine tkl 6 rfl (yieldsIf_load_mid (by rfl) _ _ rfl _ _ rfl _ _ (fun _ h => h.2.2) Try.underlying42 rfl HVz.out) hHeld ?_
      refine rd 7 (fun K hK => ?_)
      go_simp
      go_at_call 30
      refine (HS5.out _ (HRow'.out.keep (below_drew15 _)) (HRow.out.keep (bthen HB1.out (below_drew15 _)))).mono ?_
      rintro e w3 ⟨rfl, b3⟩
      have HB13 : Hid (Below W1.heap.size W1 w3) := Lib.hid (bthen (below_drew15 _) b3)
      have HX3 : Hid (w3.cell? ⟨g, 0, none⟩ = some (.slice (some ⟨bv, 0, none⟩) 1 1) ∧ w3.rangeAt bv 0 XU ∧ w3.rangeAt w.heap.size 0 XV) := Lib.hid ⟨cell_keep HX5.out.1 HB13.out, range_same HX5.out.2.1 (HB13.out.block bv hbl), range_same HX5.out.2.2 (HB13.out.block _ z1)⟩
      clear b3
      go_wp2_with fail
      refine hK.out _ _ (HX3.out) (fun hHeld => ?_)
      clear hK K
      refine tk 8 hHeld ?_
      refine wpAnyH_done (by kernel_rfl) ?_ _
      clear hHeld
      have HB3 : Hid (Below w.heap.size w w3) := Lib.hid (bthen HB1.out HB13.out)
      have HK3 := Lib.hid (HK1.out.keep HB13.out)
      clear HB1 HK1 HX5 HX3 HB13 hbl z1 c0 hg1 HRow' HXu HS5
      cases sb with
      | true =>
        have HS := Lib.hid (HSt.out _ HB3.out)
        have HE := Lib.hid (HSa.out (by first | rfl | trivial) HSo.out)
        go_wp2
        go_ret2
        exact ⟨by rw [HE.out.1]; rfl, by rw [HE.out.2]; exact HS.out⟩
      | false =>
        have HNew := Lib.hid (HNw.out (by first | rfl | trivial) HSo.out)
        go_upto_region 8 with fail
        refine fin (fun W => Below w.heap.size w W ∧ Blk W w.heap.size 42 XV.toArray) ⟨HB3.out, HK3.out⟩ ?_
        clear HNo HSa HNw HSt HSo HB3 HK3
        rintro W1 ⟨b1, k1⟩
        have HB1 := Lib.hid b1
        have HK1 := Lib.hid k1
        clear b1 k1
        have HRw8 := Lib.hid (HRow.out.keep (bthen HB1.out (alloc_below W1 (.cells #[] 40))))
        have HO8 : Hid (OwnX 4 cPl 40 (W1.alloc (.cells #[] 40)) W1.heap.size (.slice (some ⟨W1.heap.size, 0, none⟩) 0 0) ([] : List (Nat → Int))) := Lib.hid ⟨by simp, Or.inr ⟨W1.heap.size, 0, #[], rfl, Nat.le_refl _, Blk.new _ _ _, Nat.le_refl _, Nat.zero_le _, by simp, by simp⟩⟩
        have hbs := bs_nonePl W1
        have hcv : (W1.alloc (.cells #[] 40)).cell? ⟨w.heap.size, 0, none⟩ = some (.slice a n cap) := HC8.out _ (HK1.out.keep (alloc_below _ _))
        have hz1 : w.heap.size < W1.heap.size := HK1.out.lt
        go_wp2_with (at_builtin; refine wpList_appendR rfl (.tmp 28) (.tmp 30) 35 32 (.agg #[.int .i64 0, .int .i64 0, .int .i64 0, .int .i64 0]) rfl Try.underlying35 zPl2_info rfl (by decide) (by decide) cPl_len cPl_one rfl HO8.out a n cap rfl HRw8.out (by simp; omega) (by simp) ?_)
        intro v' W2 k1 k2 _
        obtain ⟨sa, sc, rfl, -⟩ := k1.row cPl_len
        obtain ⟨xl, hxl⟩ : ∃ xl, xl = X.length := ⟨_, rfl⟩
        rw [← hxl] at k1 ⊢
        clear hxl
        have HB2 : Hid (Below W1.heap.size W1 W2) := Lib.hid (grown_below2 (alloc_below _ _) k2 (fun b e => by simp [Value.ownBlock] at e; omega))
        have HK2 := Lib.hid (HK1.out.keep HB2.out)
        have HO2 : Hid (OwnX 4 cPl 40 W2 W1.heap.size (.slice sa xl sc) X) := Lib.hid k1
        have hcv2 : W2.cell? ⟨w.heap.size, 0, none⟩ = some (.slice a n cap) := HC8.out _ HK2.out
        have hfv2 := HK2.out.frozen 0
        have hz2 : w.heap.size < W2.heap.size := HK2.out.lt
        clear k1 k2 hcv hbs HRw8 HO8
        have HS9 : Hid (Blk (W2.setCell ⟨w.heap.size, 0, none⟩ (.slice sa xl sc)) w.heap.size 42 (cVw (.slice sa xl sc) E m).toArray ∧ OwnX 4 cPl 40 (W2.setCell ⟨w.heap.size, 0, none⟩ (.slice sa xl sc)) w.heap.size (.slice sa xl sc) X ∧ Below w.heap.size w (W2.setCell ⟨w.heap.size, 0, none⟩ (.slice sa xl sc))) := Lib.hid ⟨HV9.out _ _ HK2.out, (HO2.out.low (Nat.le_of_lt hz1)).same (fun b e => set_at (fun q => by have := (HO2.out.lt b e).1; omega)), (bthen HB1.out HB2.out).setCell (Nat.le_refl _) _⟩
        go_upto_region 10 with fail
        refine fin (fun W => Blk W w.heap.size 42 (cVw (.slice sa xl sc) E m).toArray ∧ OwnX 4 cPl 40 W w.heap.size (.slice sa xl sc) X ∧ Below w.heap.size w W) HS9.out ?_
        clear HS9 HK2 HO2 HB2 HK1 HB1 hcv2 hfv2 hz1 hz2
        rintro W3 ⟨k3, o3, b3⟩
        have HK3 := Lib.hid k3
        have HB3 := Lib.hid b3
        have HVs := Lib.hid (vw_size (.slice sa xl sc) E m)
        have HBs := Lib.hid (bs_vw (.slice sa xl sc) E m)
        have hal : Below W3.heap.size W3 (W3.alloc (.cells (cVw (.slice sa xl sc) E m).toArray 42)) := alloc_below _ _
        have HSl := Lib.hid (HH.out.setV HFt.out (bthen b3 hal) (v := .slice (some ⟨W3.heap.size, 0, none⟩) 1 1) (s := .slice sa xl sc) (V' := some ⟨X, E, m⟩) ⟨W3.heap.size, rfl, Blk.new W3 _ _, (o3.low (Nat.zero_le _)).keep hal⟩ (fun b q => by
          injection q with q
          rw [← q]; exact b3.size) (fun b q => (o3.lt b q).1))
        have hc10 : (W3.alloc (.cells (cVw (.slice sa xl sc) E m).toArray 42)).cell? ⟨g, 0, none⟩ = some (.slice (some ⟨bv, 0, none⟩) 1 1) := (HH.out.keep (bthen b3 hal)).blk.cell 0
        have hf10 := (HH.out.keep (bthen b3 hal)).blk.frozen 0
        have hg10 : g < (W3.alloc (.cells (cVw (.slice sa xl sc) E m).toArray 42)).heap.size := (HH.out.keep (bthen b3 hal)).blk.lt
        have hg11 : g < W3.heap.size := (HH.out.keep b3).blk.lt
        obtain ⟨XW, hXW⟩ : ∃ XW, XW = cVw (.slice sa xl sc) E m := ⟨_, rfl⟩
        rw [← hXW] at HK3 HVs HBs HSl hc10 hf10 hg10
        have HR3 : Hid (W3.rangeAt w.heap.size 0 XW) := Lib.hid (blk_whole HK3.out)
        rw [World.setCell_alloc_past (w := W3) (.cells XW.toArray 42) g 0 (.slice (some ⟨W3.heap.size, 0, none⟩) 1 1) hg11] at HSl
        clear k3 o3 b3 hal hXW
        go_upto_region 11 with (first
          | refine wpList_load_mid rfl 42 (.tmp 3) rfl w.heap.size 0 rfl XW _ HR3.out Try.underlying42 rfl HVs.out ?_
          | refine wpList_bs8 rfl 28 42 (.tmp 35) rfl XW rfl HBs.out ?_)
        refine fin (fun W => ChX RKB w W g F { U with V := some ⟨X, E, m⟩ }) ⟨_, ⟨_, _, _, _, _, _, HSl.out.1, fun _ => Iff.rfl⟩, HSl.out.2.1, HSl.out.2.2⟩ ?_
        clear HSl hc10 hf10 hg10 hg11 HR3 HVs HBs HK3 HB3 HH HFt
        rintro W4 ⟨F4, h4, fr4, sub4⟩
        have HJ := Lib.hid (And.intro fr4 sub4)
        have HA4 := Lib.hid (rall_any h4 HN.out)
        clear h4 fr4 sub4
        go_wp2_with fail
        refine HA4.out.mono ?_
        rintro e w5 ⟨rfl, h5⟩
        have H5 : Hid (ChX RKB w w5 g F { U with V := some ⟨X, E, m⟩, D := U.R.map Rc.id }) := Lib.hid (ChX.join HJ.out.1 HJ.out.2 h5)
        clear HA4 h5 HJ
        go_wp2
        go_ret2
        exact ⟨by rw [HNew.out.1]; rfl, by rw [HNew.out.2]; exact H5.out⟩
end
def AwX (F : Nat → Prop) (a : Option Addr) (n : Nat) : Prop := n = 0 ∨ ∀ ad, a = some ad → ¬ F ad.block
theorem rowx_frame {α : Type} {k : Nat} {c : α → List Value} {w w' : World} {a : Option Addr} {n : Nat} {X : List α} {F : Nat → Prop} (h : RowX k c w a n X) (ha : AwX F a n) (hf : Fr w w' F) : RowX k c w' a n X := by
  refine ⟨h.1, h.2.1, ?_⟩
  rcases h.2.2 with c | ⟨b, off, e, hb, hr⟩
  · exact Or.inl c
  · rcases ha with q | q
    · exact Or.inl q
    · exact Or.inr ⟨b, off, e, Nat.lt_of_lt_of_le hb hf.2.2.2.1, fun i x hx => range_same (hr i x hx) (hf.2.2.2.2 b hb (q _ e))⟩
section
variable {w : World} {g : Nat} {D : FD} {F : Nat → Prop}
end
theorem nod_len : ∀ {A B : List Int}, A.Nodup → (∀ x ∈ A, x ∈ B) → A.length ≤ B.length
  | [], _, _, _ => Nat.zero_le _
  | a :: A, B, h, hs => by
    have ha : a ∈ B := hs a List.mem_cons_self
    have h1 := nod_len (A := A) (B := B.erase a) (List.nodup_cons.1 h).2 (fun x hx => (List.mem_erase_of_ne (fun e => (List.nodup_cons.1 h).1 (by rw [← e]; exact hx))).2 (hs x (List.mem_cons_of_mem _ hx)))
    rw [List.length_erase_of_mem ha] at h1
    have h2 := List.length_pos_of_mem ha
    rw [List.length_cons]
    omega
theorem KOk.dlen {K : Ku} (h : KOk K) : K.D.length ≤ K.R.length := by
  have := nod_len h.nod h.dr
  rwa [List.length_map] at this
theorem rem_len (L : List Rc) (l : List Int) : (remL L l).length ≤ L.length := List.length_filter_le _ _
def dropC (K : Ku) (l : List Int) : Nat := K.R.length - (remL K.R l).length
theorem rem_one {x : Int} : ∀ {L : List Rc}, Rise L → (remL L [x]).length < L.length → (remL L [x]).length + 1 = L.length
  | [], _, h => by cases h
  | a :: L, hr, h => by
    obtain ⟨h1, h2⟩ := rise_cons.1 hr
    unfold remL at h ⊢
    by_cases c : a.id = x
    · have e : (L.filter (fun r => !decide (r.id ∈ [x]))) = L := List.filter_eq_self.2 (fun r hr => by
        have := h1 r hr
        have : r.id ≠ x := by omega
        simp [this])
      rw [List.filter_cons_of_neg (by simp [c]), e]
      rfl
    · rw [List.filter_cons_of_pos (by simp [c])] at h ⊢
      rw [List.length_cons, List.length_cons] at h ⊢
      have := rem_one (x := x) h2 (by unfold remL; omega)
      unfold remL at this
      omega
theorem drops_R (l : List Int) (K : Ku) : (dropsK K l).R = remL K.R l := (drops_fields l K).2.1
theorem drops_snoc {l : List Int} {j : Nat} {z : Int} (h : l[j]? = some z) (K : Ku) : dropsK K (l.take (j + 1)) = dropK (dropsK K (l.take j)) z := by
  unfold dropsK
  rw [List.take_add_one, h, List.foldl_append]
  rfl
theorem puts_snoc {l : List Rc} {j : Nat} {r : Rc} (h : l[j]? = some r) (K : Ku) : putsK K (l.take (j + 1)) = putK (putsK K (l.take j)) r := by
  unfold putsK
  rw [List.take_add_one, h, List.foldl_append]
  rfl
theorem dropC_snoc {K : Ku} (hK : KOk K) {l : List Int} {j : Nat} {z : Int} (h : l[j]? = some z) : dropC K (l.take (j + 1)) = dropC K (l.take j) + (if (remL (dropsK K (l.take j)).R [z]).length < (dropsK K (l.take j)).R.length then 1 else 0) := by
  have e1 : remL K.R (l.take (j + 1)) = remL (dropsK K (l.take j)).R [z] := by
    rw [← drops_R, drops_snoc h]
    rfl
  have h1 := rem_len K.R (l.take j)
  have e2 : remL K.R (l.take j) = (dropsK K (l.take j)).R := (drops_R _ _).symm
  unfold dropC
  rw [e1, e2]
  rw [e2] at h1
  by_cases c : (remL (dropsK K (l.take j)).R [z]).length < (dropsK K (l.take j)).R.length
  · rw [if_pos c]
    have := rem_one (KOk.drops (l := l.take j) hK).rise c
    omega
  · rw [if_neg c]
    have := rem_len (dropsK K (l.take j)).R [z]
    omega
theorem puts_len (l : List Rc) (K : Ku) : (putsK K l).R.length ≤ K.R.length + l.length := by
  rw [(puts_fields l K).2.1]
  exact insRs_len l K.R
theorem drops_len (l : List Int) (K : Ku) : (dropsK K l).R.length ≤ K.R.length := by
  rw [drops_R]
  exact rem_len _ _
theorem puts_n (l : List Rc) (K : Ku) : (putsK K l).n = K.n := (puts_fields l K).2.2.2.2
theorem drops_n (l : List Int) (K : Ku) : (dropsK K l).n = K.n := (drops_fields l K).2.2.2.2
structure KB15 (PB : World → Nat → (Nat → Prop) → Ku → Prop) : Prop where
  keep_ : ∀ w w' g F K, PB w g F K → (∀ b, F b → w'.heap[b]? = w.heap[b]?) → PB w' g F K
  inb : ∀ w g F K, PB w g F K → ∀ b, F b → b < w.heap.size
  inG : ∀ w g F K, PB w g F K → g < w.heap.size
theorem KB15.keep {PB : World → Nat → (Nat → Prop) → Ku → Prop} (h : KB15 PB) {w w' : World} {g : Nat} {F : Nat → Prop} {K : Ku} (hs : PB w g F K) (hb : Below w.heap.size w w') : PB w' g F K := h.keep_ w w' g F K hs (fun b hf => hb.block b (h.inb w g F K hs b hf))
theorem kb_rkb : KB15 RKB := ⟨fun _ _ _ _ _ h he => h.same he, fun _ _ _ _ h => h.inb, fun _ _ _ _ h => by
  obtain ⟨_, _, _, _, _, _, h1, _⟩ := h
  exact h1.blk.lt⟩
structure KC (PB : World → Nat → (Nat → Prop) → Ku → Prop) : Prop where
  kb : KB15 PB
  new : ∀ w : World, Calls Try.prog 6 #[] w fun e w' => ∃ g F, e = .returned (.pointer (some ⟨g, 0, none⟩)) ∧ PB w' g F Ku0 ∧ (∀ b, F b → w.heap.size ≤ b) ∧ Below w.heap.size w w'
  look : ∀ (w : World) g F K (a : Option Addr) (n cap : Nat) (X : List (Nat → Int)) (E : Nat → Int) (m : Int), KOk K → VOk K → K.R.length ≤ 200 → PB w g F K → PlRow w a n X → AwX F a n → n ≤ 1000 → Calls Try.prog 9 #[.pointer (some ⟨g, 0, none⟩), .agg (cVw (.slice a n cap) E m).toArray] w fun e w' => e = .returned (.tuple #[.bool (lookA K ⟨X, E, m⟩).1, .int .i64 (lookA K ⟨X, E, m⟩).2]) ∧ ChX PB w w' g F (lookS K ⟨X, E, m⟩)
  close : ∀ (w : World) g F K, KOk K → VOk K → K.R.length ≤ 200 → PB w g F K → Calls Try.prog 17 #[.pointer (some ⟨g, 0, none⟩)] w fun e w' => e = .returned (.tuple #[]) ∧ ChX PB w w' g F (closeS K)
  put : ∀ (w : World) g F K (a : Option Addr) (n cap : Nat) (l : List Rc), KOk K → K.R.length + n ≤ 200 → n ≤ 40 → PB w g F K → RcRow w a n l → AwX F a n → (∀ r ∈ l, Rg r.id) → Calls Try.prog 8 #[.pointer (some ⟨g, 0, none⟩), .slice a n cap] w fun e w' => e = .returned (.tuple #[]) ∧ ChX PB w w' g F (putsK K l)
  drop : ∀ (w : World) g F K (a : Option Addr) (n cap : Nat) (xs : List Int), KOk K → K.R.length ≤ 200 → n ≤ 40 → PB w g F K → Row w a n xs → Aw F a n → Rgs xs → Calls Try.prog 14 #[.pointer (some ⟨g, 0, none⟩), .slice a n cap] w fun e w' => e = .returned (.int .i64 (dropC K xs : Nat)) ∧ ChX PB w w' g F (dropsK K xs)
  run : ∀ (w : World) g F K, KOk K → VOk K → K.R.length ≤ 200 → 0 ≤ K.n → K.n ≤ 1000000 → PB w g F K → Calls Try.prog 10 #[.pointer (some ⟨g, 0, none⟩)] w fun e w' => e = .returned (.tuple #[.int .i64 K.D.length, .int .i64 (runE15 K)]) ∧ ChX PB w w' g F (runS15 K)
  seen : ∀ (w : World) g F K, KOk K → VOk K → K.R.length ≤ 200 → PB w g F K → Calls Try.prog 13 #[.pointer (some ⟨g, 0, none⟩)] w fun e w' => ∃ a cap, e = .returned (.slice a (seenK K).length cap) ∧ RowX 2 cSn w' a (seenK K).length (seenK K) ∧ ((seenK K).length = 0 ∨ ∀ ad, a = some ad → w.heap.size ≤ ad.block) ∧ Below w.heap.size w w'
  steps : ∀ (w : World) g F K, 0 ≤ K.n → K.n ≤ 1000000 → PB w g F K → Calls Try.prog 15 #[.pointer (some ⟨g, 0, none⟩)] w fun e w' => e = .returned (.int .i64 K.n) ∧ Below w.heap.size w w'
structure Duo15 (PB QB : World → Nat → (Nat → Prop) → Ku → Prop) (w0 w : World) (gp gr : Nat) (Fp Fq : Nat → Prop) (Dp Dq : Ku) : Prop where
  p : PB w gp Fp Dp
  q : QB w gr Fq Dq
  far : ∀ b, Fp b → ¬ Fq b
  low : Below w0.heap.size w0 w
  np : ∀ b, Fp b → w0.heap.size ≤ b
  nq : ∀ b, Fq b → w0.heap.size ≤ b
section
variable {PB QB : World → Nat → (Nat → Prop) → Ku → Prop}
variable {w0 w w' : World} {gp gr : Nat} {Fp Fq : Nat → Prop} {Dp Dq Dp' Dq' : Ku}
theorem Duo15.keep (hP : KB15 PB) (hQ : KB15 QB) (h : Duo15 PB QB w0 w gp gr Fp Fq Dp Dq) (hb : Below w.heap.size w w') : Duo15 PB QB w0 w' gp gr Fp Fq Dp Dq := ⟨hP.keep h.p hb, hQ.keep h.q hb, h.far, bthen h.low hb, h.np, h.nq⟩
theorem Duo15.prog (hQ : KB15 QB) (h : Duo15 PB QB w0 w gp gr Fp Fq Dp Dq) (k : ChX PB w w' gp Fp Dp') : ∃ Fp', Duo15 PB QB w0 w' gp gr Fp' Fq Dp' Dq ∧ (∀ b, b < w.heap.size → ¬ Fp b → w'.heap[b]? = w.heap[b]? ∧ ¬ Fp' b) ∧ w.heap.size ≤ w'.heap.size := by
  obtain ⟨F', k1, k2, k3⟩ := k
  have hq := hQ.inb _ _ _ _ h.q
  refine ⟨F', ⟨k1, hQ.keep_ _ _ _ _ _ h.q (fun b hb => k2.2.2.2.2 b (hq b hb) (fun c => h.far b c hb)), fun b hb hc => ?_, Fr.below k2 h.low h.np h.low.size, fun b hb => ?_, h.nq⟩, fun b hl hn => ⟨k2.2.2.2.2 b hl hn, fun c => ?_⟩, k2.2.2.2.1⟩
  · rcases k3 b hb with d | d
    · exact h.far b d hc
    · have := hq b hc; omega
  · rcases k3 b hb with d | d
    · exact h.np b d
    · exact Nat.le_trans h.low.size d
  · rcases k3 b c with d | d
    · exact hn d
    · omega
theorem Duo15.ref (hP : KB15 PB) (h : Duo15 PB QB w0 w gp gr Fp Fq Dp Dq) (k : ChX QB w w' gr Fq Dq') : ∃ Fq', Duo15 PB QB w0 w' gp gr Fp Fq' Dp Dq' ∧ (∀ b, b < w.heap.size → ¬ Fq b → w'.heap[b]? = w.heap[b]? ∧ ¬ Fq' b) ∧ w.heap.size ≤ w'.heap.size := by
  obtain ⟨F', k1, k2, k3⟩ := k
  have hp := hP.inb _ _ _ _ h.p
  refine ⟨F', ⟨hP.keep_ _ _ _ _ _ h.p (fun b hb => k2.2.2.2.2 b (hp b hb) (fun c => h.far b hb c)), k1, fun b hb hc => ?_, Fr.below k2 h.low h.nq h.low.size, h.np, fun b hb => ?_⟩, fun b hl hn => ⟨k2.2.2.2.2 b hl hn, fun c => ?_⟩, k2.2.2.2.1⟩
  · rcases k3 b hc with d | d
    · exact h.far b hb d
    · have := hp b hb; omega
  · rcases k3 b hb with d | d
    · exact h.nq b d
    · exact Nat.le_trans h.low.size d
  · rcases k3 b c with d | d
    · exact hn d
    · omega
theorem awx_old15 {α : Type} {k : Nat} {c : α → List Value} {F : Nat → Prop} {a : Option Addr} {n : Nat} {X : List α} (hr : RowX k c w0 a n X) (hn : ∀ b, F b → w0.heap.size ≤ b) : AwX F a n := by
  rcases hr.2.2 with d | ⟨b, off, e, hb, _⟩
  · exact Or.inl d
  · refine Or.inr (fun ad e' hf => ?_)
    rw [e] at e'
    injection e' with e'
    rw [← e'] at hf
    have h1 : w0.heap.size ≤ b := hn _ hf
    omega
theorem aw_old15 {F : Nat → Prop} {a : Option Addr} {n : Nat} {xs : List Int} (hr : Row w0 a n xs) (hn : ∀ b, F b → w0.heap.size ≤ b) : Aw F a n := by
  rcases hr.2.2 with c | ⟨b, off, e, hc⟩
  · exact Or.inl c
  · by_cases q : n = 0
    · exact Or.inl q
    · refine Or.inr (fun ad e' hf => ?_)
      have hlt := World.block_lt_of_cell? _ _ (hc 0 (by omega))
      rw [e] at e'
      injection e' with e'
      rw [← e'] at hf
      have h1 : w0.heap.size ≤ b := hn _ hf
      have h2 : b < w0.heap.size := hlt
      omega
theorem rowx_stay {α : Type} {k : Nat} {c : α → List Value} {a : Option Addr} {n : Nat} {X : List α} (h : RowX k c w a n X) (hs : ∀ ad, a = some ad → ad.block < w.heap.size → w'.heap[ad.block]? = w.heap[ad.block]?) (hz : w.heap.size ≤ w'.heap.size) : RowX k c w' a n X :=
  ⟨h.1, h.2.1, h.2.2.imp id (fun ⟨b, off, e, hb, hr⟩ => ⟨b, off, e, Nat.lt_of_lt_of_le hb hz, fun i x hx => range_same (hr i x hx) (hs _ e hb)⟩)⟩
end
end Go.Proofs.Ytjcibffhlhdjeaa
