/-
  3 texts in one file, each with its own heading.
-/
import Derived.Test.YtjcibffhlhdjeaaMU19
/-
  What the reference's Close and one of layer 15 answer, and make of the cull.
-/
namespace Go.Proofs.Ytjcibffhlhdjeaa
open Go.RowKit

section
variable {w : World} {g : Nat} {U : Ku} {F : Nat → Prop}
set_option maxHeartbeats 4000000 in
set_option maxRecDepth 100000 in
theorem rclose_any (h0 : RKB w g F U) (hn : U.R.length ≤ 1000) :
    Calls Try.prog 18 #[.pointer (some ⟨g, 0, none⟩)] w fun e w' => e = .returned (.tuple #[]) ∧ ChX RKB w w' g F (closeS U) := by
  have HAl := Lib.hid (rall_any h0 hn)
  obtain ⟨vV, vs, vR, vD, vS, st, h, hF⟩ := h0
  have hv := h.vw
  cases e : U.V with
  | none =>
    rw [e] at hv
    obtain ⟨rfl, rfl⟩ := hv
    have HSl := Lib.hid (h.setV hF (Below.refl _ _) (v := .slice none 0 0) (s := .slice none 0 0) (V' := none) ⟨rfl, rfl⟩ (fun b q => by cases q) (fun b q => by cases q))
    have HE : Hid (closeS U = { U with V := none }) := Lib.hid (by unfold closeS; rw [e]; rfl)
    have c0 : w.cell? ⟨g, 0, none⟩ = some (.slice none 0 0) := h.blk.cell 0
    have f0 := h.blk.frozen 0
    have hg := h.blk.lt
    clear h hF e HAl
    go_enter Try.func18, Try.ntmps18
    go_wp2
    refine fin (fun W => ChX RKB w W g F { U with V := none }) ⟨_, ⟨_, _, _, _, _, _, HSl.out.1, fun _ => Iff.rfl⟩, HSl.out.2.1, HSl.out.2.2⟩ ?_
    intro W hW
    go_end0
    exact ⟨rfl, by rw [HE.out]; exact hW⟩
  | some v =>
    rw [e] at hv
    obtain ⟨bv, rfl, -, -⟩ := hv
    have HE : Hid (closeS U = { U with V := none, D := U.R.map Rc.id }) := Lib.hid (by unfold closeS; rw [e]; rfl)
    have c0 : w.cell? ⟨g, 0, none⟩ = some (.slice (some ⟨bv, 0, none⟩) 1 1) := h.blk.cell 0
    have hg := h.blk.lt
    clear h hF e
    go_enter Try.func18, Try.ntmps18
    go_wp2_with fail
    refine HAl.out.mono ?_
    rintro e w1 ⟨rfl, F1, ⟨vV1, vs1, vR1, vD1, vS1, st1, h1, hF1⟩, hfr, hsub⟩
    have HSl := Lib.hid (h1.setV hF1 (Below.refl _ _) (v := .slice none 0 0) (s := .slice none 0 0) (V' := none) ⟨rfl, rfl⟩ (fun b q => by cases q) (fun b q => by cases q))
    have HJ : Hid (Fr w w1 F ∧ ∀ b, F1 b → F b ∨ w.heap.size ≤ b) := Lib.hid ⟨hfr, hsub⟩
    have d0 : w1.cell? ⟨g, 0, none⟩ = some vV1 := h1.blk.cell 0
    have f0 := h1.blk.frozen 0
    have hg1 := h1.blk.lt
    clear h1 hF1 hfr hsub HAl c0 hg
    go_wp2
    refine fin (fun W => ChX RKB w1 W g F1 { U with V := none, D := U.R.map Rc.id }) ⟨_, ⟨_, _, _, _, _, _, HSl.out.1, fun _ => Iff.rfl⟩, HSl.out.2.1, HSl.out.2.2⟩ ?_
    intro W hW
    go_end0
    exact ⟨rfl, by rw [HE.out]; exact ChX.join HJ.out.1 HJ.out.2 hW⟩
theorem vw_size (s : Value) (E : Nat → Int) (m : Int) : (Try.prog.info? 42).map (·.size) = some (cVw s E m).length := by kernel_rfl
set_option maxHeartbeats 8000000 in
set_option maxRecDepth 100000 in
theorem rone15_any (h0 : RKB w g F U) (x : Rc) :
    Calls Try.prog 35 #[.pointer (some ⟨g, 0, none⟩), .agg (cRc x).toArray] w fun e w' => e = .returned (ansT (seeK U.V x)) ∧ Below w.heap.size w w' := by
  obtain ⟨vV, vs, vR, vD, vS, st, h, hF⟩ := h0
  have hv := h.vw
  have HB0 : Hid (Below w.heap.size w (w.alloc (.cells (cRc x).toArray 50))) := Lib.hid (alloc_below _ _)
  have HKx : Hid ((w.alloc (.cells (cRc x).toArray 50)).rangeAt w.heap.size 0 (cRc x)) := Lib.hid (blk_whole (Blk.new w _ _))
  have HRs := Lib.hid (rf_size x)
  cases e : U.V with
  | none =>
    rw [e] at hv
    obtain ⟨rfl, rfl⟩ := hv
    have c0 : w.cell? ⟨g, 0, none⟩ = some (.slice none 0 0) := h.blk.cell 0
    have hg := h.blk.lt
    have c0' : (w.alloc (.cells (cRc x).toArray 50)).cell? ⟨g, 0, none⟩ = some (.slice none 0 0) := cell_keep c0 HB0.out
    obtain ⟨XR, hXR⟩ : ∃ XR, XR = cRc x := ⟨_, rfl⟩
    rw [← hXR] at HB0 HKx c0' ⊢
    clear h hF e c0 HKx HRs hXR
    go_enter Try.func35, Try.ntmps35
    go_wp2
    exact bodyPost_ret (v := .tuple #[.int .i64 0, .bool false, .int .i64 0]) (by simp [results, Try.results35, go_sem]) rfl ⟨rfl, HB0.out⟩
  | some v =>
    rw [e] at hv
    obtain ⟨bv, rfl, kb, ob⟩ := hv
    obtain ⟨a, cap, rfl, _, _, row⟩ := ob.row cPl_len
    have HRow := Lib.hid row
    have HSee : Hid (∀ W, PlRow W a v.ps.length v.ps → Calls Try.prog 48 #[.agg (cVw (.slice a v.ps.length cap) v.eye v.m).toArray, .agg (cRc x).toArray] W fun e w' => e = .returned (ansT (seeT v x.ly (boxR x))) ∧ Below W.heap.size W w') := Lib.hid (fun W r => rsees_any a v.ps.length cap v.ps v.eye v.m _ _ _ _ _ x.ly (boxR x) W r)
    have HVs := Lib.hid (vw_size (.slice a v.ps.length cap) v.eye v.m)
    have c0 : w.cell? ⟨g, 0, none⟩ = some (.slice (some ⟨bv, 0, none⟩) 1 1) := h.blk.cell 0
    have hg := h.blk.lt
    have hbl := kb.lt
    have HRv : Hid (w.rangeAt bv 0 (cVw (.slice a v.ps.length cap) v.eye v.m)) := Lib.hid (blk_whole kb)
    obtain ⟨q, hq⟩ : ∃ q, q = v.ps.length := ⟨_, rfl⟩
    obtain ⟨T, hT⟩ : ∃ T, T = seeT v x.ly (boxR x) := ⟨_, rfl⟩
    obtain ⟨d, s, er⟩ := T
    have hTT : seeK (some v) x = (d, s, er) := hT.symm
    obtain ⟨XV, hXV⟩ : ∃ XV, XV = cVw (.slice a v.ps.length cap) v.eye v.m := ⟨_, rfl⟩
    obtain ⟨XR, hXR⟩ : ∃ XR, XR = cRc x := ⟨_, rfl⟩
    rw [← hT, ← hXV, ← hXR] at HSee
    rw [← hXV] at HVs HRv
    rw [← hXR] at HB0 HKx HRs
    rw [hTT, ← hXR]
    have HC0 : Hid (∀ u, Below w.heap.size w u → u.cell? ⟨g, 0, none⟩ = some (.slice (some ⟨bv, 0, none⟩) 1 1) ∧ u.rangeAt bv 0 XV ∧ g < u.heap.size ∧ bv < u.heap.size) := Lib.hid (fun u k => ⟨cell_keep c0 k, range_same HRv.out (k.block bv hbl), Nat.lt_of_lt_of_le hg k.size, Nat.lt_of_lt_of_le hbl k.size⟩)
    clear h hF e kb ob row hT hTT hXV hXR c0 hg hbl HRv
    go_enter Try.func35, Try.ntmps35
    go_upto_region 1 with fail
    refine fin (fun W => Below w.heap.size w W ∧ W.rangeAt w.heap.size 0 XR ∧ w.heap.size < W.heap.size) ⟨HB0.out, HKx.out, by simp⟩ ?_
    clear HB0 HKx
    rintro W0 ⟨b0, r0, z0⟩
    obtain ⟨c0, rv, hg, hbl⟩ := HC0.out W0 b0
    have HB0 := Lib.hid b0
    have HX0 := Lib.hid (And.intro c0 (And.intro rv r0))
    have HRW := Lib.hid (HRow.out.keep b0)
    clear HC0 HRow b0
    go_upto_region 3 with fail
    refine wp_region_held_drew (S := fun w' => w'.cell? ⟨g, 0, none⟩ = some (.slice (some ⟨bv, 0, none⟩) 1 1) ∧ w'.rangeAt bv 0 XV ∧ w'.rangeAt w.heap.size 0 XR) (by kernel_rfl) (HX0.out) (fun hHeld => ?_)
    refine tk 0 hHeld ?_
    refine tk 1 hHeld ?_
    refine tk 2 hHeld ?_
    refine tk 3 hHeld ?_
    refine tk 4 hHeld ?_
    refine tkl 5 rfl (yieldsIf_load_mid (by rfl) _ _ rfl _ _ rfl _ _ (fun _ h => h.2.1) Try.underlying42 rfl HVs.out) hHeld ?_
    refine tkl 6 rfl (yieldsIf_load_mid (by rfl) _ _ rfl _ _ rfl _ _ (fun _ h => h.2.2) Try.underlying50 rfl HRs.out) hHeld ?_
    refine rd 7 (fun K hK => ?_)
    go_simp
    go_at_call 48
    refine (HSee.out _ (HRW.out.keep (below_drew15 _))).mono ?_
    rintro e w3 ⟨rfl, b3⟩
    have HB3 : Hid (Below w.heap.size w w3) := Lib.hid (bthen (bthen HB0.out (below_drew15 _)) b3)
    have HX3 : Hid (w3.cell? ⟨g, 0, none⟩ = some (.slice (some ⟨bv, 0, none⟩) 1 1) ∧ w3.rangeAt bv 0 XV ∧ w3.rangeAt w.heap.size 0 XR) := Lib.hid ⟨cell_keep HX0.out.1 (bthen (below_drew15 _) b3), range_same HX0.out.2.1 ((bthen (below_drew15 _) b3).block bv hbl), range_same HX0.out.2.2 ((bthen (below_drew15 _) b3).block _ z0)⟩
    unfold ansT
    clear b3
    go_wp2_with fail
    refine hK.out _ _ (HX3.out) (fun hHeld => ?_)
    clear hK K
    refine tk 8 hHeld ?_
    refine tk 9 hHeld ?_
    refine tk 10 hHeld ?_
    refine tk 11 hHeld ?_
    refine tk 12 hHeld ?_
    refine tk 13 hHeld ?_
    refine wpAnyH_done (by kernel_rfl) ?_ _
    clear hHeld
    go_wp2
    exact bodyPost_ret (v := .tuple #[.int .i64 d, .bool s, .int .i64 er]) (by simp [results, Try.results35, go_sem]) rfl ⟨rfl, HB3.out⟩
end
theorem drow {w : World} {base n m cap : Nat} {a : Option Addr} {zs : List Int} (h : OwnD w base (.slice a n cap) m zs) : Row w a n zs := by
  obtain ⟨a', c', e, r⟩ := h.row
  injection e with e1 e2 e3
  rw [e1, e2]; exact r
section
variable {w : World} {g : Nat} {U : Ku} {F : Nat → Prop}
set_option maxHeartbeats 16000000 in
set_option maxRecDepth 100000 in
theorem rput_any (h0 : RKB w g F U) (hU : Rise U.R) (hn : U.R.length ≤ 1000) (hd : U.D.length ≤ 1000) (x : Rc) :
    Calls Try.prog 33 #[.pointer (some ⟨g, 0, none⟩), .agg (cRc x).toArray] w fun e w' => e = .returned (.tuple #[]) ∧ ChX RKB w w' g F (putK U x) := by
  obtain ⟨vV, vs, vR, vD, vS, st, h, hF⟩ := h0
  obtain ⟨ar, cr, hvR, hcap, hmax, -⟩ := h.rc.row cRc_len
  subst hvR
  obtain ⟨ad, cd, hvD, -⟩ := h.dir.row
  subst hvD
  obtain ⟨n, hN⟩ : ∃ n, n = U.R.length := ⟨_, rfl⟩
  obtain ⟨B, hB⟩ : ∃ B, B = U.D := ⟨_, rfl⟩
  have HN := Lib.hid hN
  rw [← hN] at hn hcap h hF
  have HH := Lib.hid h
  have HFt := Lib.hid hF
  have HRs := Lib.hid (rf_size x)
  have HB0 : Hid (Below w.heap.size w (w.alloc (.cells (cRc x).toArray 50))) := Lib.hid (alloc_below _ _)
  have HK0 := Lib.hid (Blk.new w 50 (cRc x).toArray)
  have HIn : Hid (∀ W, RcRow W ar n U.R → Calls Try.prog 45 #[.slice ar n cr, .agg (cRc x).toArray] W fun e w' => ∃ v, e = .returned v ∧ OwnX 12 cRc 50 w' W.heap.size v (insR x U.R) ∧ Below W.heap.size W w') := Lib.hid (fun W r => (gins_any ar n cr U.R x W r hU hn).mono (fun e w' => by
    rintro ⟨v, R, h1, h2, _, h4, h5, h6⟩
    rw [insR_is hU h4 h5] at h2
    exact ⟨v, h1, h2, h6⟩))
  have HCi : Hid (∀ W : World, W.rangeAt w.heap.size 0 (cRc x) → W.cell? ⟨w.heap.size, 0, none⟩ = some (.int .i64 x.id)) := Lib.hid (fun W k => k 0 _ rfl)
  have HPy : Hid (x.id ∈ U.D → { U with R := insR x U.R } = putK U x) := Lib.hid (fun q => by
    show _ = { U with R := insR x U.R, D := dput U.D x.id }
    unfold dput
    rw [if_pos q])
  have HPn : Hid (x.id ∉ U.D → { U with R := insR x U.R, D := U.D ++ [x.id] } = putK U x) := Lib.hid (fun q => by
    show _ = { U with R := insR x U.R, D := dput U.D x.id }
    unfold dput
    rw [if_neg q])
  obtain ⟨Rn, hRn⟩ : ∃ Rn, Rn = insR x U.R := ⟨_, rfl⟩
  obtain ⟨XR, hXR⟩ : ∃ XR, XR = cRc x := ⟨_, rfl⟩
  obtain ⟨y, hy⟩ : ∃ y, y = x.id := ⟨_, rfl⟩
  rw [← hRn] at HIn HPy HPn
  rw [← hXR] at HRs HB0 HK0 HIn HCi ⊢
  rw [← hy] at HCi HPy HPn
  have HHc : Hid (∀ W : World, Below w.heap.size w W → W.cell? ⟨g, 1, none⟩ = some (.slice ar n cr) ∧ W.frozen? ⟨g, 1, none⟩ = false ∧ g < W.heap.size) := Lib.hid (fun W b => ⟨(HH.out.keep b).blk.cell 1, (HH.out.keep b).blk.frozen 1, (HH.out.keep b).blk.lt⟩)
  clear h hF hXR hy hN hRn hU
  go_enter Try.func33, Try.ntmps33
  go_upto_region 1 with fail
  refine fin (fun W => Below w.heap.size w W ∧ W.rangeAt w.heap.size 0 XR ∧ w.heap.size < W.heap.size) ⟨HB0.out, blk_whole HK0.out, by simp⟩ ?_
  clear HB0 HK0
  rintro W0 ⟨b0, k0, z0⟩
  have HB0 := Lib.hid b0
  have HK0 := Lib.hid k0
  obtain ⟨c1, -, hg0⟩ := HHc.out W0 b0
  have HX0 := Lib.hid (And.intro c1 k0)
  clear b0 k0
  have c1d : W0.drew.cell? ⟨g, 1, none⟩ = some (.slice ar n cr) := c1
  have hg0d : g < W0.drew.heap.size := hg0
  refine wp_region_held_drew (S := fun w' => w'.rangeAt w.heap.size 0 XR) (by kernel_rfl) (HK0.out) (fun hHeld => ?_)
  refine tk 0 hHeld ?_
  refine tk 1 hHeld ?_
  refine tk 2 hHeld ?_
  refine tk 3 hHeld ?_
  refine tkl 5 rfl (yieldsIf_load_mid (by rfl) _ _ rfl _ _ rfl _ _ (fun _ h => h) Try.underlying50 rfl HRs.out) hHeld ?_
  refine rd 4 (fun K hK => ?_)
  go_simp
  go_wp2_with fail
  refine hK.out _ _ (HK0.out) (fun hHeld => ?_)
  clear hK K
  refine rd 6 (fun K hK => ?_)
  go_simp
  go_at_call 45
  refine (HIn.out _ (rcrow (HH.out.keep (bthen HB0.out (below_drew15 _))).rc HN.out)).mono ?_
  rintro e w3 ⟨v', rfl, o3, b3⟩
  obtain ⟨av, cv, rfl, -⟩ := o3.row cRc_len
  obtain ⟨mm, hmm⟩ : ∃ mm, mm = Rn.length := ⟨_, rfl⟩
  rw [← hmm] at o3 ⊢
  clear hmm
  have HB03 : Hid (Below W0.heap.size W0 w3) := Lib.hid (bthen (below_drew15 _) b3)
  have HX3 : Hid (w3.rangeAt w.heap.size 0 XR) := Lib.hid (range_same HK0.out (HB03.out.block _ z0))
  have HB3 : Hid (Below w.heap.size w w3) := Lib.hid (bthen HB0.out HB03.out)
  have HNv : Hid (∀ b, (Value.slice av mm cv).ownBlock = some b → W0.heap.size ≤ b) := Lib.hid (fun b e => (o3.lt b e).1)
  have HSl := Lib.hid (HH.out.setR HFt.out HB3.out (v := .slice av mm cv) (o3.low HB0.out.size))
  obtain ⟨d1, f1, hg3⟩ := HHc.out w3 HB3.out
  have hgz : g < w.heap.size := HH.out.blk.lt
  clear o3 b3 c1 c1d hg0 hg0d
  go_wp2_with fail
  refine hK.out _ _ (HX3.out) (fun hHeld => ?_)
  clear hK K
  refine tk 7 hHeld ?_
  refine tk 8 hHeld ?_
  refine rd 9 (fun K hK => ?_)
  go_simp
  have HX4 : Hid ((w3.setCell ⟨g, 1, none⟩ (.slice av mm cv)).rangeAt w.heap.size 0 XR) := Lib.hid (range_same HX3.out (set_at (by omega)))
  refine hK.out _ _ (HX4.out) (fun hHeld => ?_)
  clear hK K
  refine wpAnyH_done (by kernel_rfl) ?_ _
  clear hHeld
  have hsz4 : w.heap.size < (w3.setCell ⟨g, 1, none⟩ (.slice av mm cv)).heap.size := by
    have := HB03.out.size
    simp [World.setCell]
    omega
  refine fin (fun W => RK W g { U with R := Rn } vV vs (.slice av mm cv) (.slice ad U.D.length cd) vS st ∧ Fr w W F ∧ (∀ b, footK g vV vs (.slice av mm cv) (.slice ad U.D.length cd) b → F b ∨ w.heap.size ≤ b) ∧ W.rangeAt w.heap.size 0 XR ∧ w.heap.size < W.heap.size ∧ ∀ b, footK g vV vs (.slice av mm cv) (.slice ad U.D.length cd) b → b ≠ w.heap.size) ⟨HSl.out.1, HSl.out.2.1, HSl.out.2.2, HX4.out, hsz4, fun b e => ?_⟩ ?_
  · rcases e with e | (e | e | e) | e
    · rw [e]; omega
    · have := HH.out.inb b (Or.inr (Or.inl (Or.inl e))); omega
    · have := HH.out.inb b (Or.inr (Or.inl (Or.inr (Or.inl e)))); omega
    · have := HNv.out b e; omega
    · have := HH.out.inb b (Or.inr (Or.inr e)); omega
  clear HSl HX4 hsz4 HX3 HB3 HB03 HNv HB0 HK0 z0 d1 f1 hg3 HIn HRs HHc HH HFt
  rintro W5 ⟨h5, fr5, sub5, x5, z5, n5⟩
  have H5 := Lib.hid h5
  have HJ := Lib.hid (And.intro fr5 (And.intro sub5 n5))
  have d5 : W5.cell? ⟨g, 2, none⟩ = some (.slice ad U.D.length cd) := h5.blk.cell 2
  have HX5 := Lib.hid (And.intro d5 (HCi.out _ x5))
  have hg5 := h5.blk.lt
  clear h5 fr5 sub5 x5 n5 d5
  go_upto_region 2 with fail
  refine wp_region_held_drew (S := fun w' => w'.cell? ⟨g, 2, none⟩ = some (.slice ad U.D.length cd) ∧ w'.cell? ⟨w.heap.size, 0, none⟩ = some (.int .i64 y)) (by kernel_rfl) (HX5.out) (fun hHeld => ?_)
  refine tk 0 hHeld ?_
  refine tk 1 hHeld ?_
  refine tk 2 hHeld ?_
  refine tk 3 hHeld ?_
  refine tk 4 hHeld ?_
  refine tk 5 hHeld ?_
  refine rd 6 (fun K hK => ?_)
  go_simp
  go_at_call 46
  refine (plhas_any ad U.D.length cd U.D y _ (drow (H5.out.keep (below_drew15 _)).dir)).mono ?_
  rintro e w6 ⟨rfl, rfl⟩
  go_wp2_with fail
  refine hK.out _ _ (HX5.out) (fun hHeld => ?_)
  clear hK K
  refine tk 7 hHeld ?_
  refine wpAnyH_done (by kernel_rfl) ?_ _
  clear hHeld
  refine fin (fun W => RK W g { U with R := Rn } vV vs (.slice av mm cv) (.slice ad U.D.length cd) vS st ∧ Fr w W F ∧ W.cell? ⟨w.heap.size, 0, none⟩ = some (.int .i64 y) ∧ w.heap.size < W.heap.size) ⟨H5.out.keep (below_drew15 _), Fr.behind HJ.out.1 (below_drew15 _), HX5.out.2, z5⟩ ?_
  clear H5 HX5 z5 hg5
  rintro V ⟨h6, fr6, x6, z6⟩
  have HW := Lib.hid h6
  have HFr := Lib.hid fr6
  have cd2 : V.cell? ⟨g, 2, none⟩ = some (.slice ad U.D.length cd) := h6.blk.cell 2
  have hgV := h6.blk.lt
  clear h6 fr6
  obtain ⟨bb, hbb⟩ : ∃ bb, bb = decide (y ∈ U.D) := ⟨_, rfl⟩
  rw [← hbb]
  cases bb with
  | true =>
    have HE := Lib.hid (HPy.out (of_decide_eq_true hbb.symm))
    clear hbb HPy HPn
    go_wp2
    go_end0
    exact ⟨rfl, by rw [← HE.out]; exact ⟨_, ⟨_, _, _, _, _, _, HW.out, fun _ => Iff.rfl⟩, HFr.out, HJ.out.2.1⟩⟩
  | false =>
    have HE := Lib.hid (HPn.out (of_decide_eq_false hbb.symm))
    clear hbb HPy HPn
    have hBl : U.D.length ≤ 1000 := hd
    rw [← hB] at HE HW HJ cd2 hBl
    have HZ := Lib.hid z6
    go_upto_region 4 with fail
    refine fin (fun W => RK W g { U with R := Rn, D := B } vV vs (.slice av mm cv) (.slice ad B.length cd) vS st ∧ Fr w W F ∧ W.cell? ⟨w.heap.size, 0, none⟩ = some (.int .i64 y) ∧ w.heap.size < W.heap.size ∧ W.cell? ⟨g, 2, none⟩ = some (.slice ad B.length cd)) ⟨HW.out, HFr.out, x6, HZ.out, cd2⟩ ?_
    clear HW HFr x6 HZ cd2 hgV
    rintro V ⟨h6, fr6, x6, z6, cd2⟩
    have HW := Lib.hid h6
    have HFr := Lib.hid fr6
    have HX := Lib.hid x6
    have HD := Lib.hid cd2
    have CB : Hid ((V.drew.alloc (.cells #[.int .i64 y] 46)).cell? ⟨g, 2, none⟩ = some (.slice ad B.length cd) ∧ (V.drew.alloc (.cells #[.int .i64 y] 46)).cell? ⟨w.heap.size, 0, none⟩ = some (.int .i64 y)) := Lib.hid ⟨cell_keep (w := V.drew) cd2 (alloc_below _ _), cell_keep (w := V.drew) x6 (alloc_below _ _)⟩
    clear h6 fr6 x6 cd2
    refine wp_region_held_drew (S := fun w' => w'.cell? ⟨w.heap.size, 0, none⟩ = some (.int .i64 y)) (by kernel_rfl) (HX.out) (fun hHeld => ?_)
    refine tk 0 hHeld ?_
    refine tk 1 hHeld ?_
    refine tk 2 hHeld ?_
    refine tk 3 hHeld ?_
    refine tk 5 hHeld ?_
    refine tk 6 hHeld ?_
    refine wpAnyH_pair (i := 4) (j := 7) (v := .slice ad B.length cd) (u := .slice (some ⟨V.heap.size, 0, none⟩) 1 1) (w' := V.drew.alloc (.cells #[.int .i64 y] 46)) rfl rfl (by kernel_rfl) (by kernel_rfl) (by kernel_rfl) (by rfl) (by rfl) (by rfl) (by rfl) (exec_cell rfl rfl Try.underlying30 HD.out) (exec_bs rfl rfl (bs_id y _)) (exec_bs rfl rfl (bs_id y _)) (exec_cell rfl rfl Try.underlying30 CB.out.1) rfl hHeld (CB.out.2) ?_
    simp only [Act.put, List.getElem_toArray, List.getElem_cons_zero, List.getElem_cons_succ, List.setIfInBounds_toArray, List.set_cons_zero, List.set_cons_succ]
    refine rd 8 (fun K hK => ?_)
    rw [if_pos (by rfl)]
    refine wp_appD (.tmp 27) (.tmp 30) rfl (.slice ad B.length cd) B rfl (ownd_same HW.out.dir (fun d e => (alloc_below V.drew (.cells #[.int .i64 y] 46)).block d (World.ownsRow.lt HW.out.dir d e).2)) (by omega) y V.heap.size (Blk.new V.drew _ _) rfl ?_
    intro gu gcap w4 ho4 hgr hat
    obtain ⟨hrw, hfr2, hsub2, k4, hvb⟩ := RK.pushD (w := V.drew) (HW.out.keep (below_drew15 V)) (fun _ => Iff.rfl) hgr (by rw [List.length_append]; rfl) ho4 hat
    have hnw : Value.ownBlock (.slice ad B.length cd) ≠ some w.heap.size := fun e => HJ.out.2.2 _ (Or.inr (Or.inr e)) rfl
    have HX4 : Hid (w4.cell? ⟨w.heap.size, 0, none⟩ = some (.int .i64 y)) := Lib.hid (by
      have := HX.out
      simp only [World.cell?] at this ⊢
      rw [hvb _ z6 hnw]
      exact this)
    have hgz2 : w.heap.size ≠ g := by omega
    have HX5 : Hid ((w4.setCell ⟨g, 2, none⟩ (.slice (some ⟨gu, 0, none⟩) (B.length + 1) gcap)).cell? ⟨w.heap.size, 0, none⟩ = some (.int .i64 y)) := Lib.hid (by
      have := HX4.out
      simp only [World.cell?] at this ⊢
      rw [set_at hgz2]
      exact this)
    have HC : Hid (ChX RKB w (w4.setCell ⟨g, 2, none⟩ (.slice (some ⟨gu, 0, none⟩) (B.length + 1) gcap)) g F (putK U x)) := Lib.hid (by
      rw [← HE.out]
      refine ⟨_, ⟨_, _, _, _, _, _, hrw, fun _ => Iff.rfl⟩, Fr.two (Fr.behind HFr.out (below_drew15 V)) hfr2 HJ.out.2.1, fun d e => ?_⟩
      rcases hsub2 d e with q | q
      · exact HJ.out.2.1 d q
      · exact Or.inr (Nat.le_trans HFr.out.2.2.2.1 q))
    have d4 : w4.cell? ⟨g, 2, none⟩ = some (.slice ad B.length cd) := k4.cell 2
    have f4 : w4.frozen? ⟨g, 2, none⟩ = false := k4.frozen 2
    have hg4 := k4.lt
    generalize B.length + 1 = nn at HX5 HC ⊢
    clear ho4 hgr hat hrw hfr2 hsub2 k4 hvb
    refine hK.out _ _ HX4.out (fun hHeld => ?_)
    clear hK K
    simp only [Act.put, List.getElem_toArray, List.getElem_cons_zero, List.getElem_cons_succ, List.setIfInBounds_toArray, List.set_cons_zero, List.set_cons_succ]
    refine tk 9 hHeld ?_
    refine tk 10 hHeld ?_
    refine rd 11 (fun K hK => ?_)
    go_simp
    refine hK.out _ _ HX5.out (fun hHeld => ?_)
    clear hK K
    refine wpAnyH_done (by kernel_rfl) ?_ _
    clear hHeld
    refine fin (fun W => ChX RKB w W g F (putK U x)) HC.out ?_
    clear HX4 HX5 HC d4 f4 hg4 CB HX HD HW HFr HJ z6
    rintro W9 h9
    go_wp2
    go_end0
    exact ⟨rfl, h9⟩
end
theorem filt_step15 {D : List Int} {x y : Int} {k : Nat} (h : D[k]? = some y) : (D.take (k + 1)).filter (fun z => !decide (z = x)) = (D.take k).filter (fun z => !decide (z = x)) ++ (if y = x then [] else [y]) := by
  rw [List.take_add_one, h, List.filter_append]
  by_cases c : y = x
  · rw [if_pos c]; simp [c]
  · rw [if_neg c]; simp [c]
section
variable {w : World} {g : Nat} {U : Ku} {F : Nat → Prop}
set_option maxHeartbeats 16000000 in
set_option maxRecDepth 100000 in
theorem rdrop_any (h0 : RKB w g F U) (hn : U.R.length ≤ 1000) (hd : U.D.length ≤ 1000) (x : Int) :
    Calls Try.prog 34 #[.pointer (some ⟨g, 0, none⟩), .int .i64 x] w fun e w' => e = .returned (.bool (decide ((remL U.R [x]).length < U.R.length))) ∧ ChX RKB w w' g F (dropK U x) := by
  obtain ⟨vV, vs, vR, vD, vS, st, h, hF⟩ := h0
  obtain ⟨ar, cr, hvR, hcap, hmax, -⟩ := h.rc.row cRc_len
  subst hvR
  obtain ⟨ad, cd, hvD, -⟩ := h.dir.row
  subst hvD
  obtain ⟨n, hN⟩ : ∃ n, n = U.R.length := ⟨_, rfl⟩
  obtain ⟨B, hB⟩ : ∃ B, B = U.D := ⟨_, rfl⟩
  have HN := Lib.hid hN
  have HBe := Lib.hid hB
  rw [← hN] at hn hcap h hF ⊢
  rw [← hB] at hd h hF
  have HH := Lib.hid h
  have HFt := Lib.hid hF
  have HRm : Hid (Calls Try.prog 47 #[.slice ar n cr, .slice (some ⟨w.heap.size, 0, none⟩) 1 1] (w.alloc (.cells #[.int .i64 x] 46)) fun e w' => ∃ v, e = .returned v ∧ OwnX 12 cRc 50 w' (w.alloc (.cells #[.int .i64 x] 46)).heap.size v (remL U.R [x]) ∧ Below (w.alloc (.cells #[.int .i64 x] 46)).heap.size (w.alloc (.cells #[.int .i64 x] 46)) w') := Lib.hid (by
    refine grem_any ar n cr U.R (some ⟨w.heap.size, 0, none⟩) 1 1 [x] _ (rcrow (h.keep (alloc_below _ _)).rc hN) ⟨rfl, by omega, Or.inr ⟨w.heap.size, 0, rfl, fun i hi => ?_⟩⟩ (by omega)
    obtain rfl : i = 0 := by omega
    exact (Blk.new w 46 #[.int .i64 x]).cell 0)
  have hbs1 : ∀ W, (Instr.buildSlice 30 1 #[(0, .int .i64 x)]).run Try.prog W = .ok (.slice (some ⟨W.heap.size, 0, none⟩) 1 1) (W.alloc (.cells #[.int .i64 x] 46)) := fun W => by kernel_rfl
  have c1 : w.cell? ⟨g, 1, none⟩ = some (.slice ar n cr) := h.blk.cell 1
  have hg := h.blk.lt
  have HRl : Hid ((remL U.R [x]).length ≤ n) := Lib.hid (by
    have q1 := List.length_filter_le (fun r : Rc => !decide (r.id ∈ [x])) U.R
    rw [← hN] at q1
    exact q1)
  obtain ⟨Rn, hRn⟩ : ∃ Rn, Rn = remL U.R [x] := ⟨_, rfl⟩
  rw [← hRn] at HRm HRl ⊢
  have HE : Hid ({ U with R := Rn, D := B.filter (fun y => !decide (y = x)) } = dropK U x) := Lib.hid (by rw [hRn, hB]; rfl)
  obtain ⟨bb, hbb⟩ : ∃ bb, bb = decide (Rn.length < n) := ⟨_, rfl⟩
  have HBB := Lib.hid hbb
  rw [← hbb]
  clear h hF hN hB hRn hbb
  go_enter Try.func34, Try.ntmps34
  go_wp2_with fail
  refine HRm.out.mono ?_
  rintro e w3 ⟨v', rfl, o3, b3⟩
  obtain ⟨av, cv, rfl, hcv, hmv, -⟩ := o3.row cRc_len
  have HB3 : Hid (Below w.heap.size w w3) := Lib.hid (bthen (alloc_below _ _) b3)
  have HSl := Lib.hid (HH.out.setR HFt.out HB3.out (v := .slice av Rn.length cv) (o3.low (alloc_below w _).size))
  have d1 : w3.cell? ⟨g, 1, none⟩ = some (.slice ar n cr) := (HH.out.keep HB3.out).blk.cell 1
  have f1 := (HH.out.keep HB3.out).blk.frozen 1
  have hg3 := (HH.out.keep HB3.out).blk.lt
  clear o3 b3 HRm hbs1 c1 hg
  go_upto_region 3 with fail
  refine fin (fun W => RK W g { U with R := Rn } vV vs (.slice av Rn.length cv) (.slice ad B.length cd) vS st ∧ Fr w W F ∧ ∀ b, footK g vV vs (.slice av Rn.length cv) (.slice ad B.length cd) b → F b ∨ w.heap.size ≤ b) ⟨HSl.out.1, HSl.out.2.1, HSl.out.2.2⟩ ?_
  clear HSl HB3 d1 f1 hg3 HH HFt
  rintro W5 ⟨h5, fr5, sub5⟩
  have H5 := Lib.hid h5
  have HJ := Lib.hid (And.intro fr5 sub5)
  clear h5 fr5 sub5
  obtain ⟨i0, hi0, hz0, hz1, hz2⟩ := info_parts id_info
  have HI := Lib.hid (And.intro hi0 (And.intro hz0 (And.intro hz1 hz2)))
  clear hi0 hz0 hz1 hz2
  obtain ⟨q, hq⟩ : ∃ q, q = B.length := ⟨_, rfl⟩
  obtain ⟨m, hm⟩ : ∃ m, m = Rn.length := ⟨_, rfl⟩
  rw [← hq] at H5 HJ hd
  have HTk : Hid (B.take q = B) := Lib.hid (List.take_of_length_le (by rw [hq]; exact Nat.le_refl _))
  have HQ := Lib.hid hq
  have HM := Lib.hid hm
  change Hid (RK W5 g { U with R := Rn } vV vs (.slice av Rn.length cv) (.slice ad q cd) vS st) at H5
  change Hid (Fr w W5 F ∧ ∀ b, footK g vV vs (.slice av Rn.length cv) (.slice ad q cd) b → F b ∨ w.heap.size ≤ b) at HJ
  rw [← hm] at H5 HJ HRl ⊢
  clear hq hm
  go_wp2
  go_loopw [6, 7] (fun v i wr => ∃ k : Nat, k ≤ q ∧ i = .int .i64 k ∧ OwnD wr W5.heap.size v ((B.take k).filter (fun z => !decide (z = x))).length ((B.take k).filter (fun z => !decide (z = x))) ∧ Below W5.heap.size W5 wr) (fun _ i _ => q - (intOf i).toNat)
  case atStart => exact ⟨0, by omega, rfl, OwnD.nil _ _, Below.refl _ _⟩
  case round =>
    obtain ⟨k, hk, rfl, hown, hb⟩ := hrel
    have HOwn := Lib.hid hown
    have HB := Lib.hid hb
    clear hown hb
    have HR2 := Lib.hid (H5.out.keep HB.out)
    have c2 : wr.cell? ⟨g, 2, none⟩ = some (.slice ad q cd) := HR2.out.blk.cell 2
    have hgr := HR2.out.blk.lt
    have hk0 : (0 : Int) ≤ (k : Int) := by omega
    by_cases hlt : k < q
    · obtain ⟨b, off, y, rfl, hv, c0⟩ := row_at (drow HR2.out.dir) hlt
      have hk1 : (k : Int) < (q : Int) := by omega
      have HSt := Lib.hid (filt_step15 (x := x) (show B[k]? = some y by rw [HBe.out]; exact hv))
      have hle : ((B.take k).filter (fun z => !decide (z = x))).length ≤ k := Nat.le_trans (List.length_filter_le _ _) (by rw [List.length_take]; omega)
      obtain ⟨X, hX⟩ : ∃ X, X = (B.take k).filter (fun z => !decide (z = x)) := ⟨_, rfl⟩
      rw [← hX] at HOwn HSt hle
      clear hX hv
      by_cases he : y = x
      · have ge : (y != x) = false := by rw [he]; simp
        rw [if_pos he, List.append_nil] at HSt
        clear he
        go_wp2
        go_roundw
        case rel => exact ⟨k + 1, by omega, by go_num, by rw [HSt.out]; exact HOwn.out, HB.out⟩
        case measure => simp [intOf] <;> omega
      · have ge : (y != x) = true := by simpa using he
        rw [if_neg he] at HSt
        clear he
        obtain ⟨z, hz⟩ : ∃ z, z = X.length := ⟨_, rfl⟩
        rw [← hz] at HOwn hle
        have HZ := Lib.hid hz
        clear hz
        have hsz : W5.heap.size ≤ wr.heap.size := HB.out.size
        go_wp2_with (at_builtin; refine wpList_append_own _ rfl (.tmp 41) (.tmp 49) 30 rfl W5.heap.size 46 i0 (.int .i64 0) 1 8 Try.underlying30 HI.out.1 HI.out.2.1 HI.out.2.2.1 HI.out.2.2.2 rfl (by decide) _ _ _ rfl (HOwn.out.alloc _) ⟨wr.heap.size, 0, none⟩ 1 1 [.int .i64 y] rfl rfl (cell_one_new _ _ _) (by intro u hu; simp at hu; subst hu; rfl) (by unfold maxLen; omega) (by omega) (by simp; omega) ?_)
        intro v' w2 hown' hgrow _
        have HOwn' := Lib.hid hown'
        have HGr := Lib.hid hgrow
        clear hown' hgrow
        go_wp2
        go_roundw
        case rel =>
          have el : ((B.take (k + 1)).filter (fun z => !decide (z = x))).length = z + 1 := by rw [HSt.out, List.length_append, ← HZ.out]; rfl
          refine ⟨k + 1, by omega, by go_num, ?_, grownD_below HOwn.out (Nat.le_refl _) HB.out hsz HGr.out⟩
          rw [el]
          unfold OwnD
          rw [HSt.out, List.map_append]
          exact HOwn'.out
        case measure => simp [intOf] <;> omega
    · obtain rfl : k = q := by omega
      rw [HTk.out] at HOwn
      have m1 : ¬ (k : Int) < (k : Int) := by omega
      have f2 := HR2.out.blk.frozen 2
      obtain ⟨X, hX⟩ : ∃ X, X = B.filter (fun z => !decide (z = x)) := ⟨_, rfl⟩
      rw [← hX] at HOwn HE
      obtain ⟨la, lc, rfl, -⟩ := HOwn.out.row
      obtain ⟨z, hz⟩ : ∃ z, z = X.length := ⟨_, rfl⟩
      have HS := Lib.hid (RK.setD H5.out (fun _ => Iff.rfl) HB.out HOwn.out)
      rw [← hz] at HS ⊢
      have c5 : (wr.setCell ⟨g, 2, none⟩ (.slice la z lc)).cell? ⟨g, 1, none⟩ = some (.slice av m cv) := HS.out.1.blk.cell 1
      have hg5 := HS.out.1.blk.lt
      have HC : Hid (ChX RKB w (wr.setCell ⟨g, 2, none⟩ (.slice la z lc)) g F (dropK U x)) := Lib.hid (ChX.join HJ.out.1 HJ.out.2 ⟨_, ⟨_, _, _, _, _, _, by rw [← HE.out]; exact HS.out.1, fun _ => Iff.rfl⟩, HS.out.2.1, HS.out.2.2⟩)
      clear HS hz hX HOwn HB HR2 HTk
      go_upto_region 10 with fail
      refine fin (fun W => ChX RKB w W g F (dropK U x) ∧ W.cell? ⟨g, 1, none⟩ = some (.slice av m cv) ∧ g < W.heap.size) ⟨HC.out, c5, hg5⟩ ?_
      clear HC c5 hg5 c2 hgr f2
      rintro W9 ⟨h9, c9, hg9⟩
      have H9 := Lib.hid h9
      clear h9
      by_cases c : m < n
      · have m2 : (m : Int) < (n : Int) := by omega
        have e9 : bb = true := HBB.out.trans (decide_eq_true (by rw [← HM.out]; exact c))
        go_wp2
        go_ret
        exact ⟨rfl, H9.out⟩
      · have m2 : ¬ (m : Int) < (n : Int) := by omega
        have e9 : bb = false := HBB.out.trans (decide_eq_false (by rw [← HM.out]; exact c))
        go_wp2
        go_ret
        exact ⟨rfl, H9.out⟩
end
end Go.Proofs.Ytjcibffhlhdjeaa
