/-
  3 texts in one file, each with its own heading.
-/
import Derived.Test.YtjcibffhlhdjeaaMU20
import Derived.Test.YtjcibffhlhdjeaaMU13
import Derived.Test.YtjcibffhlhdjeaaMU03
import Derived.Test.YtjcibffhlhdjeaaMU14
import Derived.Test.YtjcibffhlhdjeaaMU10
/-
  What the reference's Run of layer 15 answers, and makes of the cull.
-/
namespace Go.Proofs.Ytjcibffhlhdjeaa
open Go.RowKit

def cSn (p : Int × Int) : List Value := [.int .i64 p.1, .int .i64 p.2]
theorem cSn_len (p : Int × Int) : (cSn p).length = 2 := rfl
theorem cSn_one (p : Int × Int) : ∀ u ∈ cSn p, u.oneCell' = true := fun u hu => by
  simp [cSn] at hu
  rcases hu with rfl | rfl <;> rfl
theorem bs_seen15 (x d : Int) (W : World) : (Instr.buildSlice 31 1 #[(0, .agg #[.int .i64 x, .int .i64 d])]).run Try.prog W = .ok (.slice (some ⟨W.heap.size, 0, none⟩) 1 1) (W.alloc (.cells (cSn (x, d)).toArray 80)) := by kernel_rfl
theorem zSn_info : (Try.prog.info? 80).map (fun i => (i.zero, i.size, i.bytes)) = some (some (.agg #[.int .i64 0, .int .i64 0]), 2, 16) := by kernel_rfl
theorem wp_push15 {α : Type} {k : Nat} {c : α → List Value} {t : TypeId} {op : Oper} {a : Go.Act} {w : World} {K : Go.Act → World → Prop} {Q : Exit → Go.Act → World → Prop} (ts tb : Operand) (tl : TypeId) (by_ : Nat) (z : Value)
    (ho : op.op = .call { callee := .builtin .append, args := #[ts, tb], argTypes := #[tl, tl] }) (hu : Try.prog.underlying tl = some (.slice t))
    (hinfo : (Try.prog.info? t).map (fun i => (i.zero, i.size, i.bytes)) = some (some z, k, by_)) (hzs : z.cells.size = k) (hk : 0 < k) (hby : by_ ≤ 1000) (hc : ∀ x, (c x).length = k) (x : α) (hone : ∀ u ∈ c x, u.oneCell' = true) (v : Value) (X : List α) (base : Nat)
    (hs : a.eval ts = v) (hown : OwnX k c t w base v X) (H : Nat) (hx : a.eval tb = .slice (some ⟨H, 0, none⟩) 1 1) (hb : Blk w H t (c x).toArray) (hX : X.length ≤ 2000) (hbs : base ≤ w.heap.size)
    (h : ∀ v' w', OwnX k c t w' base v' (X ++ [x]) → w.grownBy w' v.ownBlock → (v'.ownBlock = v.ownBlock ∨ v'.ownBlock = some w.heap.size) → K (a.put op.dst v') w') : op.wp Try.prog a w K Q := by
  obtain ⟨i0, hi0, hz0, hz1, hz2⟩ := info_parts hinfo
  have hbytes : (X.length + 1) * by_ ≤ 140737488355328 := by
    have : (X.length + 1) * by_ ≤ 2001 * 1000 := Nat.mul_le_mul (by omega) hby
    omega
  refine wp_append_lies w ts tb tl ho base t i0 z k by_ hu hi0 hz0 hz1 hz2 hzs hk v X.length (X.flatMap c) hs hown ⟨H, 0, none⟩ 1 1 (c x) hx (by rw [hc x, Nat.one_mul]) (World.news_of_block hb) hone (by omega) (by unfold maxLen; omega) hbytes hbs w.heap.size rfl ?_
  intro g cap w' h1 h2 h3 _
  refine h _ w' ?_ h2 (h3.imp (fun e => e.symm) (fun e => by rw [← e]; rfl))
  unfold OwnX
  rw [List.length_append, List.flatMap_append, List.flatMap_cons, List.flatMap_nil, List.append_nil]
  exact h1
section
variable {w w' wb : World} {g : Nat} {K K' U : Ku} {vV vs vR vD vS : Value} {st : Int} {F : Nat → Prop}
theorem RK.any (h : RK w g K vV vs vR vD vS st) (h1 : K'.V = K.V) (h2 : K'.R = K.R) (h3 : K'.D = K.D) : RK w g K' vV vs vR vD vS st :=
  ⟨h.blk, by rw [h1]; exact h.vw, by rw [h2]; exact h.rc, by rw [h3]; exact h.dir, h.o, h.od⟩
theorem RKB.any (h : RKB w g F K) (h1 : K'.V = K.V) (h2 : K'.R = K.R) (h3 : K'.D = K.D) : RKB w g F K' := by
  obtain ⟨vV, vs, vR, vD, vS, st, k1, k2⟩ := h
  exact ⟨vV, vs, vR, vD, vS, st, k1.any h1 h2 h3, k2⟩
theorem RK.setS (h : RK w g K vV vs vR vD vS st) (hF : ∀ b, F b ↔ footK g vV vs vR vD b) (hb : Below w.heap.size w wb) (v : Value) :
    RK (wb.setCell ⟨g, 3, none⟩ v) g K vV vs vR vD v st ∧ Fr w (wb.setCell ⟨g, 3, none⟩ v) F := by
  have h1 := h.keep hb
  exact ⟨⟨h1.blk.set_ 3 v, h1.vw.same (fun b e => set_at (h.o b (Or.inl e)).1) (fun b e => set_at (h.o b (Or.inr (Or.inl e))).1), h1.rc.same (fun b e => set_at (h.o b (Or.inr (Or.inr e))).1), ownd_same h1.dir (fun b e => set_at (h.od b e)), h.o, h.od⟩, fr_set ((hF g).2 (Or.inl rfl)) hb⟩
theorem RK.setN (h : RK w g K vV vs vR vD vS st) (hF : ∀ b, F b ↔ footK g vV vs vR vD b) (hb : Below w.heap.size w wb) (q : Int) :
    RK (wb.setCell ⟨g, 4, none⟩ (.int .i64 q)) g K vV vs vR vD vS q ∧ Fr w (wb.setCell ⟨g, 4, none⟩ (.int .i64 q)) F := by
  have h1 := h.keep hb
  exact ⟨⟨h1.blk.set_ 4 _, h1.vw.same (fun b e => set_at (h.o b (Or.inl e)).1) (fun b e => set_at (h.o b (Or.inr (Or.inl e))).1), h1.rc.same (fun b e => set_at (h.o b (Or.inr (Or.inr e))).1), ownd_same h1.dir (fun b e => set_at (h.od b e)), h.o, h.od⟩, fr_set ((hF g).2 (Or.inl rfl)) hb⟩
theorem run_no {U : Ku} (h : errK U.V U.R ≠ 0) : (runS15 U).V = U.V ∧ (runS15 U).R = U.R ∧ (runS15 U).D = U.R.map Rc.id := by
  unfold runS15
  rw [if_neg h]
  exact ⟨rfl, rfl, rfl⟩
theorem run_yes {U : Ku} (h : errK U.V U.R = 0) : (runS15 U).V = U.V ∧ (runS15 U).R = U.R ∧ (runS15 U).D = [] := by
  unfold runS15
  rw [if_pos h]
  exact ⟨rfl, rfl, rfl⟩
set_option maxHeartbeats 16000000 in
set_option maxRecDepth 100000 in
theorem rrun_any (h0 : RKB w g F U) (hn : U.R.length ≤ 1000) :
    Calls Try.prog 20 #[.pointer (some ⟨g, 0, none⟩)] w fun e w' => e = .returned (.tuple #[.int .i64 U.D.length, .int .i64 (runE15 U)]) ∧ ChX RKB w w' g F (runS15 U) := by
  obtain ⟨vV, vs, vR, vD, vS, st, h, hF⟩ := h0
  obtain ⟨ar, cr, hvR, hcap, hmax, -⟩ := h.rc.row cRc_len
  subst hvR
  obtain ⟨ad, cd, hvD, -⟩ := h.dir.row
  subst hvD
  obtain ⟨n, hN⟩ : ∃ n, n = U.R.length := ⟨_, rfl⟩
  obtain ⟨q, hq⟩ : ∃ q, q = U.D.length := ⟨_, rfl⟩
  have HN := Lib.hid hN
  rw [← hN] at hn hcap h hF
  rw [← hq] at h hF ⊢
  have HH := Lib.hid h
  have HFt := Lib.hid hF
  have c2 : w.cell? ⟨g, 2, none⟩ = some (.slice ad q cd) := h.blk.cell 2
  have c4 : w.cell? ⟨g, 4, none⟩ = some (.int .i64 st) := h.blk.cell 4
  have f4 := h.blk.frozen 4
  have hg := h.blk.lt
  clear h hF hN hq
  go_enter Try.func20, Try.ntmps20
  go_upto_region 3 with fail
  have HS3 := Lib.hid (fun st' : Int => HH.out.setN HFt.out (Below.refl _ _) st')
  refine fin (fun W => ∃ st', RK W g U vV vs (.slice ar n cr) (.slice ad q cd) vS st' ∧ Fr w W F) ⟨_, (HS3.out _).1, (HS3.out _).2⟩ ?_
  clear HS3 c2 c4 f4 hg HH
  rintro W3 ⟨st', h3, fr3⟩
  have H3 := Lib.hid h3
  have HFr3 := Lib.hid fr3
  have f2 := h3.blk.frozen 2
  have c23 : W3.cell? ⟨g, 2, none⟩ = some (.slice ad q cd) := h3.blk.cell 2
  have hg3 := h3.blk.lt
  clear h3 fr3
  go_upto_region 4 with fail
  have HS4 := Lib.hid (H3.out.setD (F := fun b => footK g vV vs (.slice ar n cr) (.slice ad q cd) b) (fun _ => Iff.rfl) (Below.refl _ _) (v := .slice none 0 0) (D' := []) (OwnD.nil _ _))
  refine fin (fun W => RK W g { U with D := [] } vV vs (.slice ar n cr) (.slice none 0 0) vS st' ∧ Fr w W F ∧ ∀ b, footK g vV vs (.slice ar n cr) (.slice none 0 0) b → F b) ⟨HS4.out.1, Fr.two HFr3.out HS4.out.2.1 (fun b e => Or.inl ((HFt.out b).2 e)), fun b e => ?_⟩ ?_
  · rcases e with e | e | e
    · exact (HFt.out b).2 (Or.inl e)
    · exact (HFt.out b).2 (Or.inr (Or.inl e))
    · cases e
  clear HS4 f2 c23 hg3 H3 HFr3 HFt
  rintro W4 ⟨h4, fr4, sub4⟩
  have H4 := Lib.hid h4
  have HFr4 := Lib.hid fr4
  have HSub := Lib.hid sub4
  have f3 := h4.blk.frozen 3
  have c34 : W4.cell? ⟨g, 3, none⟩ = some vS := h4.blk.cell 3
  have hg4 := h4.blk.lt
  clear h4 fr4 sub4
  go_upto_region 5 with fail
  have HS5 := Lib.hid (H4.out.setS (F := fun b => footK g vV vs (.slice ar n cr) (.slice none 0 0) b) (fun _ => Iff.rfl) (Below.refl _ _) (.slice none 0 0))
  refine fin (fun W => RK W g { U with D := [] } vV vs (.slice ar n cr) (.slice none 0 0) (.slice none 0 0) st' ∧ Fr w W F) ⟨HS5.out.1, Fr.two HFr4.out HS5.out.2 (fun b e => Or.inl (HSub.out b e))⟩ ?_
  clear HS5 f3 c34 hg4 H4 HFr4
  rintro W5 ⟨h5, fr5⟩
  have H5 := Lib.hid h5
  have HFr5 := Lib.hid fr5
  have HIn5 := Lib.hid h5.inb
  have hw5 : w.heap.size ≤ W5.heap.size := fr5.2.2.2.1
  clear h5 fr5
  go_wp2
  go_loopw [5, 6, 7, 8] (fun i _ _ _ wr => ∃ (k : Nat) (vS' : Value) (X : List (Int × Int)), k ≤ n ∧ i = .int .i64 k ∧ RK wr g { U with D := [] } vV vs (.slice ar n cr) (.slice none 0 0) vS' st' ∧ Fr w wr F ∧ W5.heap.size ≤ wr.heap.size ∧ OwnX 2 cSn 80 wr W5.heap.size vS' X ∧ X.length ≤ k ∧ errK U.V (U.R.take k) = 0) (fun i _ _ _ _ => n - (ivl i).toNat)
  case atStart => exact ⟨0, .slice none 0 0, [], by omega, rfl, H5.out, HFr5.out, Nat.le_refl _, OwnX.nil _ _ _ _ _, Nat.le_refl _, rfl⟩
  case round =>
    clear H5 HFr5
    obtain ⟨k, vS', X, hk, rfl, hw, hfr, hsz, hox, hxl, hek⟩ := hrel
    have HW := Lib.hid hw
    have HFr := Lib.hid hfr
    have HSz := Lib.hid hsz
    have HX := Lib.hid hox
    have HXl := Lib.hid hxl
    have HEk := Lib.hid hek
    have hg6 := hw.blk.lt
    have c1 : wr.cell? ⟨g, 1, none⟩ = some (.slice ar n cr) := hw.blk.cell 1
    have hk0 : (0 : Int) ≤ (k : Int) := by omega
    clear hfr hsz hox hxl hek
    by_cases hlt : k < n
    · have hk1 : (k : Int) < (n : Int) := by omega
      obtain ⟨b, off, x, rfl, hbl, hx, hr⟩ := (rcrow hw.rc HN.out).at_ hlt
      clear hw
      have HSt := Lib.hid (errK_step hx HEk.out)
      have HOne := Lib.hid (rone15_any (U := { U with D := [] }) (F := fun d => footK g vV vs (.slice (some ⟨b, off, none⟩) n cr) (.slice none 0 0) d) ⟨_, _, _, _, _, _, HW.out, fun _ => Iff.rfl⟩ x)
      obtain ⟨T, hT⟩ : ∃ T, T = seeK U.V x := ⟨_, rfl⟩
      obtain ⟨d, s, er⟩ := T
      have HOn : Hid (Calls Try.prog 35 #[.pointer (some ⟨g, 0, none⟩), .agg (cRc x).toArray] wr fun e w' => e = .returned (ansT (d, s, er)) ∧ Below wr.heap.size wr w') := Lib.hid (by rw [hT]; exact HOne.out)
      rw [← hT] at HSt
      have HRs := Lib.hid (rf_size x)
      have HRg : Hid (wr.rangeAt b (off + k * 12) (cRc x)) := Lib.hid hr
      have HCx : Hid (∀ W : World, W.rangeAt b (off + k * 12) (cRc x) → W.cell? ⟨b, off + k * 12, none⟩ = some (.int .i64 x.id)) := Lib.hid (fun W e => e 0 _ rfl)
      obtain ⟨XR, hXR⟩ : ∃ XR, XR = cRc x := ⟨_, rfl⟩
      obtain ⟨y, hy⟩ : ∃ y, y = x.id := ⟨_, rfl⟩
      rw [← hXR] at HOn HRs HRg HCx
      rw [← hy] at HCx
      clear hx hr HOne hT hXR hy
      go_wp2_with (first
        | refine wpList_load_mid rfl 50 (.tmp 45) rfl b (off + k * 12) rfl XR _ HRg.out Try.underlying50 rfl HRs.out ?_
        | fail)
      refine HOn.out.mono ?_
      rintro e w6 ⟨rfl, b6⟩
      unfold ansT
      have HB6 := Lib.hid b6
      have HW6 := Lib.hid (HW.out.keep b6)
      have HX6 := Lib.hid (HX.out.keep b6)
      have HFr6 := Lib.hid (Fr.behind HFr.out b6)
      have hsz6 : W5.heap.size ≤ w6.heap.size := Nat.le_trans HSz.out b6.size
      have HRg6 : Hid (w6.rangeAt b (off + k * 12) XR) := Lib.hid (range_same HRg.out (b6.block b hbl))
      have hbl6 : b < w6.heap.size := Nat.lt_of_lt_of_le hbl b6.size
      clear b6 HW HX HFr HRg hbl c1 hg6 HOn HB6 HSz
      have hg6 := HW6.out.blk.lt
      have f3 := HW6.out.blk.frozen 3
      have c36 : w6.cell? ⟨g, 3, none⟩ = some vS' := HW6.out.blk.cell 3
      by_cases her : er = 0
      · subst her
        have HE2 : Hid (errK U.V (U.R.take (k + 1)) = 0) := Lib.hid HSt.out.1
        clear HSt HEk
        cases s with
        | false =>
          go_wp2
          go_roundw
          case rel => exact ⟨k + 1, vS', X, by omega, by go_num, HW6.out, HFr6.out, hsz6, HX6.out, by have := HXl.out; omega, HE2.out⟩
          case measure => simp [ivl] <;> omega
        | true =>
          obtain ⟨sa, sc, hvs, -⟩ := HX6.out.row cSn_len
          subst hvs
          obtain ⟨xl, hxl⟩ : ∃ xl, xl = X.length := ⟨_, rfl⟩
          have HXe := Lib.hid hxl
          rw [← hxl] at HW6 HX6 HXl c36
          have hxk := HXl.out
          clear hxl
          go_upto_region 14 with fail
          refine fin (fun V => RK V g { U with D := [] } vV vs (.slice (some ⟨b, off, none⟩) n cr) (.slice none 0 0) (.slice sa xl sc) st' ∧ Fr w V F ∧ W5.heap.size ≤ V.heap.size ∧ OwnX 2 cSn 80 V W5.heap.size (.slice sa xl sc) X ∧ V.rangeAt b (off + k * 12) XR) ⟨HW6.out, HFr6.out, hsz6, HX6.out, HRg6.out⟩ ?_
          clear HW6 HFr6 hsz6 HX6 HRg6 hg6 f3 c36 hbl6
          rintro V ⟨hv, frv, szv, oxv, rgv⟩
          have HW := Lib.hid hv
          have HFr := Lib.hid frv
          have HX := Lib.hid oxv
          have hszV := szv
          have cx : V.cell? ⟨b, off + k * 12, none⟩ = some (.int .i64 y) := HCx.out V rgv
          have cr1 : V.cell? ⟨g, 1, none⟩ = some (.slice (some ⟨b, off, none⟩) n cr) := hv.blk.cell 1
          have c3 : V.cell? ⟨g, 3, none⟩ = some (.slice sa xl sc) := hv.blk.cell 3
          have hgV := hv.blk.lt
          have CW := Lib.hid (And.intro cx (And.intro cr1 c3))
          have CB : Hid ((V.drew.alloc (.cells (cSn (y, d)).toArray 80)).cell? ⟨g, 3, none⟩ = some (.slice sa xl sc) ∧ (V.drew.alloc (.cells (cSn (y, d)).toArray 80)).cell? ⟨b, off + k * 12, none⟩ = some (.int .i64 y) ∧ (V.drew.alloc (.cells (cSn (y, d)).toArray 80)).cell? ⟨g, 1, none⟩ = some (.slice (some ⟨b, off, none⟩) n cr)) := Lib.hid ⟨cell_keep (w := V.drew) c3 (alloc_below _ _), cell_keep (w := V.drew) cx (alloc_below _ _), cell_keep (w := V.drew) cr1 (alloc_below _ _)⟩
          have hbf : footK g vV vs (.slice (some ⟨b, off, none⟩) n cr) (.slice none 0 0) b := Or.inr (Or.inl (Or.inr (Or.inr rfl)))
          have hb5 : b < W5.heap.size := HIn5.out b hbf
          have hg5 : g < W5.heap.size := HIn5.out g (Or.inl rfl)
          have hbg : b ≠ g := (hv.o b (Or.inr (Or.inr rfl))).1
          clear cx cr1 c3 hv frv oxv rgv
          refine wp_region_held_drew (S := fun w' => w'.cell? ⟨b, off + k * 12, none⟩ = some (.int .i64 y) ∧ w'.cell? ⟨g, 1, none⟩ = some (.slice (some ⟨b, off, none⟩) n cr)) (by kernel_rfl) (⟨CW.out.1, CW.out.2.1⟩) (fun hHeld => ?_)
          refine tk 0 hHeld ?_
          refine tk 1 hHeld ?_
          refine tk 2 hHeld ?_
          refine tk 3 hHeld ?_
          refine tk 5 hHeld ?_
          refine tk 6 hHeld ?_
          refine tk 7 hHeld ?_
          refine tk 8 hHeld ?_
          refine tk 9 hHeld ?_
          refine tk 10 hHeld ?_
          refine tk 11 hHeld ?_
          refine tk 12 hHeld ?_
          refine tk 13 hHeld ?_
          refine tk 14 hHeld ?_
          refine wpAnyH_pair (i := 4) (j := 15) (v := .slice sa xl sc) (u := .slice (some ⟨V.heap.size, 0, none⟩) 1 1) (w' := V.drew.alloc (.cells (cSn (y, d)).toArray 80)) rfl rfl (by kernel_rfl) (by kernel_rfl) (by kernel_rfl) (by rfl) (by rfl) (by rfl) (by rfl) (exec_cell rfl rfl Try.underlying31 CW.out.2.2) (exec_bs rfl rfl (bs_seen15 y d _)) (exec_bs rfl rfl (bs_seen15 y d _)) (exec_cell rfl rfl Try.underlying31 CB.out.1) rfl hHeld (CB.out.2) ?_
          simp only [Act.put, List.getElem_toArray, List.getElem_cons_zero, List.getElem_cons_succ, List.setIfInBounds_toArray, List.set_cons_zero, List.set_cons_succ]
          refine rd 16 (fun K hK => ?_)
          rw [if_pos (by rfl)]
          refine wp_push15 (.tmp 65) (.tmp 76) 31 16 (.agg #[.int .i64 0, .int .i64 0]) rfl Try.underlying31 zSn_info rfl (by decide) (by decide) cSn_len (y, d) (cSn_one _) (.slice sa xl sc) X W5.heap.size rfl ((HX.out.keep (below_drew15 V)).keep (alloc_below _ _)) V.heap.size rfl (Blk.new V.drew _ _) (by rw [← HXe.out]; omega) (by
            have := (alloc_below V.drew (.cells (cSn (y, d)).toArray 80)).size
            exact Nat.le_trans hszV this) ?_
          intro v' w4 ho4 hgr _
          obtain ⟨sa2, sc2, rfl, -⟩ := ho4.row cSn_len
          have hal : Below V.heap.size V (V.drew.alloc (.cells (cSn (y, d)).toArray 80)) := bthen (below_drew15 V) (alloc_below _ _)
          have hbk : ∀ e, e < W5.heap.size → w4.heap[e]? = V.heap[e]? := fun e he => (hgr.block e (by have := hal.size; omega) (fun q => by
            have := (HX.out.lt e q.symm).1
            omega)).trans (hal.block e (by omega))
          have HK4 : Hid (RK w4 g { U with D := [] } vV vs (.slice (some ⟨b, off, none⟩) n cr) (.slice none 0 0) (.slice sa xl sc) st') := Lib.hid (HW.out.same (fun e he => hbk e (HIn5.out e he)))
          have HF4 : Hid (Fr w w4 F) := Lib.hid ⟨hgr.os.trans (hal.os.trans HFr.out.1), hgr.tape.trans (hal.tape.trans HFr.out.2.1), hgr.output.trans (hal.output.trans HFr.out.2.2.1), Nat.le_trans HFr.out.2.2.2.1 (Nat.le_trans hal.size hgr.size), fun e he hne => (hbk e (by omega)).trans (HFr.out.2.2.2.2 e he hne)⟩
          obtain ⟨nl, hnl⟩ : ∃ nl, nl = (X ++ [(y, d)]).length := ⟨_, rfl⟩
          rw [← hnl] at ho4 ⊢
          have hnk : nl ≤ k + 1 := by
            rw [hnl, List.length_append, ← HXe.out]
            simp
            omega
          have HNl := Lib.hid hnl
          have HS4 := Lib.hid (HK4.out.setS (F := fun e => footK g vV vs (.slice (some ⟨b, off, none⟩) n cr) (.slice none 0 0) e) (fun _ => Iff.rfl) (Below.refl _ _) (.slice sa2 nl sc2))
          have c4 : w4.cell? ⟨b, off + k * 12, none⟩ = some (.int .i64 y) := by
            have := CW.out.1
            simp only [World.cell?] at this ⊢
            rw [hbk b hb5]
            exact this
          have r4 : w4.cell? ⟨g, 1, none⟩ = some (.slice (some ⟨b, off, none⟩) n cr) := HK4.out.blk.cell 1
          have c5' : (w4.setCell ⟨g, 3, none⟩ (.slice sa2 nl sc2)).cell? ⟨b, off + k * 12, none⟩ = some (.int .i64 y) := by
            have := c4
            simp only [World.cell?] at this ⊢
            rw [set_at hbg]
            exact this
          have r5' : (w4.setCell ⟨g, 3, none⟩ (.slice sa2 nl sc2)).cell? ⟨g, 1, none⟩ = some (.slice (some ⟨b, off, none⟩) n cr) := HS4.out.1.blk.cell 1
          have d4 : w4.cell? ⟨g, 3, none⟩ = some (.slice sa xl sc) := HK4.out.blk.cell 3
          have f4 := HK4.out.blk.frozen 3
          have hg4 := HK4.out.blk.lt
          have HO5 : Hid (OwnX 2 cSn 80 (w4.setCell ⟨g, 3, none⟩ (.slice sa2 nl sc2)) W5.heap.size (.slice sa2 nl sc2) (X ++ [(y, d)])) := Lib.hid (ho4.same (fun e q => set_at (fun z => by
            have := (ho4.lt e q).1
            omega)))
          have HF5 : Hid (Fr w (w4.setCell ⟨g, 3, none⟩ (.slice sa2 nl sc2)) F) := Lib.hid (Fr.two HF4.out HS4.out.2 (fun e q => Or.inl (HSub.out e q)))
          have hsz5 : W5.heap.size ≤ (w4.setCell ⟨g, 3, none⟩ (.slice sa2 nl sc2)).heap.size := by
            have h1 := hgr.size
            have h2 := hal.size
            simp only [World.setCell, Array.size_modify]
            omega
          clear hnl ho4 hgr hal hbk HF4 HK4
          refine hK.out _ _ ⟨c4, r4⟩ (fun hHeld => ?_)
          clear hK K
          simp only [Act.put, List.getElem_toArray, List.getElem_cons_zero, List.getElem_cons_succ, List.setIfInBounds_toArray, List.set_cons_zero, List.set_cons_succ]
          refine tk 17 hHeld ?_
          refine tk 18 hHeld ?_
          refine rd 19 (fun K hK => ?_)
          go_simp
          refine hK.out _ _ ⟨c5', r5'⟩ (fun hHeld => ?_)
          clear hK K
          refine wpAnyH_done (by kernel_rfl) ?_ _
          clear hHeld
          refine fin (fun W => ∃ vq Xq, RK W g { U with D := [] } vV vs (.slice (some ⟨b, off, none⟩) n cr) (.slice none 0 0) vq st' ∧ Fr w W F ∧ W5.heap.size ≤ W.heap.size ∧ OwnX 2 cSn 80 W W5.heap.size vq Xq ∧ Xq.length ≤ k + 1) ⟨_, _, HS4.out.1, HF5.out, hsz5, HO5.out, by rw [← HNl.out]; exact hnk⟩ ?_
          clear HS4 HF5 hsz5 HO5 c4 r4 c5' r5' d4 f4 hg4 CW CB HW HFr HX hgV hszV HNl
          rintro W9 ⟨vq, Xq, h91, h92, h93, h94, h95⟩
          have H9 := Lib.hid (And.intro h91 (And.intro h92 (And.intro h93 (And.intro h94 h95))))
          clear h91 h92 h93 h94 h95
          go_wp2
          go_roundw
          case rel => exact ⟨k + 1, vq, Xq, by omega, by go_num, H9.out.1, H9.out.2.1, H9.out.2.2.1, H9.out.2.2.2.1, H9.out.2.2.2.2, HE2.out⟩
          case measure => simp [ivl] <;> omega
      · have HEr : Hid (runE15 U = er) := Lib.hid (HSt.out.2 her)
        have HSS := Lib.hid (HW6.out.setS (F := fun d => footK g vV vs (.slice (some ⟨b, off, none⟩) n cr) (.slice none 0 0) d) (fun _ => Iff.rfl) (Below.refl _ _) (.slice none 0 0))
        have HEs : Hid (er ≠ 0) := Lib.hid her
        have hne : (er != 0) = true := by simpa using her
        go_upto_region 11 with fail
        refine fin (fun W => RK W g { U with D := [] } vV vs (.slice (some ⟨b, off, none⟩) n cr) (.slice none 0 0) (.slice none 0 0) st' ∧ Fr w W F) ⟨HSS.out.1, Fr.two HFr6.out HSS.out.2 (fun d e => Or.inl (HSub.out d e))⟩ ?_
        clear HSS HW6 HX6 HFr6 HRg6 hg6 f3 c36 hbl6 hsz6
        rintro W7 ⟨h7, fr7⟩
        have HA7 := Lib.hid (rall_any (U := { U with D := [] }) ⟨_, _, _, _, _, _, h7, fun _ => Iff.rfl⟩ (by rw [← HN.out]; exact hn))
        have HFr7 := Lib.hid fr7
        have hg7 := h7.blk.lt
        clear h7 fr7
        go_wp2_with fail
        refine HA7.out.mono ?_
        rintro e W8 ⟨rfl, h8⟩
        have H8 : Hid (ChX RKB w W8 g F (runS15 U)) := Lib.hid (by
          obtain ⟨F8, k1, k2, k3⟩ := ChX.join HFr7.out (fun d e => Or.inl (HSub.out d e)) h8
          obtain ⟨e1, e2, e3⟩ := run_no (U := U) (show errK U.V U.R ≠ 0 by rw [show errK U.V U.R = er from HEr.out]; exact HEs.out)
          exact ⟨F8, k1.any e1 e2 e3, k2, k3⟩)
        clear h8 HA7 HFr7 hg7
        go_wp2
        go_ret2
        exact ⟨by rw [HEr.out]; rfl, H8.out⟩
    · obtain rfl : k = n := by omega
      have hk1 : ¬ (k : Int) < (k : Int) := by omega
      have HE0 : Hid (errK U.V U.R = 0) := Lib.hid (by
        have := HEk.out
        rw [HN.out, List.take_of_length_le (Nat.le_refl _)] at this
        exact this)
      have H8 : Hid (ChX RKB w wr g F (runS15 U)) := Lib.hid (by
        obtain ⟨e1, e2, e3⟩ := run_yes HE0.out
        exact ⟨_, ⟨_, _, _, _, _, _, HW.out.any e1 e2 e3, fun _ => Iff.rfl⟩, HFr.out, fun d e => Or.inl (HSub.out d e)⟩)
      clear hw
      go_wp2
      go_ret2
      exact ⟨by rw [show runE15 U = 0 from HE0.out]; rfl, H8.out⟩
end
theorem bs_nonePl (W : World) : (Instr.buildSlice 35 0 #[]).run Try.prog W = .ok (.slice (some ⟨W.heap.size, 0, none⟩) 0 0) (W.alloc (.cells #[] 40)) := by kernel_rfl
theorem zPl2_info : (Try.prog.info? 40).map (fun i => (i.zero, i.size, i.bytes)) = some (some (.agg #[.int .i64 0, .int .i64 0, .int .i64 0, .int .i64 0]), 4, 32) := by kernel_rfl
set_option maxHeartbeats 4000000 in
set_option maxRecDepth 100000 in
theorem cloneP_any (av : Option Addr) (n cap : Nat) (X : List (Nat → Int)) (w : World) (row : PlRow w av n X) (hn : n ≤ 1000000) :
    Calls Try.prog 38 #[.slice av n cap] w fun e w' => ∃ v, e = .returned v ∧ OwnX 4 cPl 40 w' w.heap.size v X ∧ Below w.heap.size w w' := by
  have HE : Hid (∀ w, (binOp .eql 35 (.slice av n cap) (.slice none 0 0)).run Try.prog w = .ok (.bool av.isNone) w) := Lib.hid (fun w => Lib.run_eql_slice_nil w _ _ av n cap 0 0 Try.underlying35)
  cases av with
  | none =>
    have h0 : n = 0 := by
      rcases row.2.2 with h | ⟨b, off, e, _⟩
      · exact h
      · cases e
    subst h0
    have hX : X = [] := List.eq_nil_of_length_eq_zero row.1
    subst hX
    clear row
    have he := HE.out
    go_enter Try.func38, Try.ntmps38
    go_wp2
    go_ret
    exact ⟨_, rfl, OwnX.nil _ _ _ _ _, Below.refl _ _⟩
  | some ad =>
    have HR := Lib.hid (row.keep (alloc_below w (.cells #[] 40)))
    have HO : Hid (OwnX 4 cPl 40 (w.alloc (.cells #[] 40)) w.heap.size (.slice (some ⟨w.heap.size, 0, none⟩) 0 0) ([] : List (Nat → Int))) := Lib.hid ⟨by simp, Or.inr ⟨w.heap.size, 0, #[], rfl, Nat.le_refl _, Blk.new _ _ _, Nat.le_refl _, Nat.zero_le _, by simp, by simp⟩⟩
    have hbs := bs_nonePl w
    have he := HE.out
    clear row
    go_enter Try.func38, Try.ntmps38
    go_wp2_with (at_builtin; refine wpList_appendR rfl (.tmp 5) (.tmp 6) 35 32 (.agg #[.int .i64 0, .int .i64 0, .int .i64 0, .int .i64 0]) rfl Try.underlying35 zPl2_info rfl (by decide) (by decide) cPl_len cPl_one rfl HO.out (some ad) n cap rfl HR.out (by simp; omega) (by simp) ?_)
    intro v' W2 k1 k2 _
    have K : Hid (OwnX 4 cPl 40 W2 w.heap.size v' X ∧ Below w.heap.size w W2) := Lib.hid ⟨k1, grown_below2 (alloc_below _ _) k2 (fun b e => by simp [Value.ownBlock] at e; omega)⟩
    clear k1 k2
    go_wp2
    go_ret
    exact ⟨v', rfl, K.out⟩
def VC (w : World) (base : Nat) (v : Value) (X : List (Nat → Int)) (W : World) : Prop := OwnX 4 cPl 40 W base v X ∧ Below w.heap.size w W
theorem VC.set {w W : World} {base g o : Nat} {v u : Value} {X : List (Nat → Int)} (h : VC w base v X W) (h1 : w.heap.size ≤ g) (h2 : g < base) : VC w base v X (W.setCell ⟨g, o, none⟩ u) :=
  ⟨h.1.same (fun b e => Below.heap_setCell _ _ _ _ (by have := (h.1.lt b e).1; show b ≠ g; omega)), h.2.setCell h1 _⟩
set_option maxHeartbeats 4000000 in
set_option maxRecDepth 10000 in
theorem vclone_any (a : Option Addr) (n cap : Nat) (X : List (Nat → Int)) (E : Nat → Int) (m : Int) (w : World) (row : PlRow w a n X) (hn : n ≤ 1000000) :
    Calls Try.prog 23 #[.agg #[.slice a n cap, .int .i64 (E 0), .int .i64 (E 1), .int .i64 (E 2), .int .i64 (E 3), .int .i64 m]] w fun e w' => ∃ v, e = .returned (.agg #[v, .int .i64 (E 0), .int .i64 (E 1), .int .i64 (E 2), .int .i64 (E 3), .int .i64 m]) ∧ OwnX 4 cPl 40 w' (w.heap.size + 2) v X ∧ Below w.heap.size w w' := by
  have hbel := balloc (alloc_below w (.cells #[.slice a n cap, .int .i64 (E 0), .int .i64 (E 1), .int .i64 (E 2), .int .i64 (E 3), .int .i64 m] 42)) (.cells #[.slice none 0 0, .int .i64 0, .int .i64 0, .int .i64 0, .int .i64 0, .int .i64 0] 42)
  have HR := Lib.hid (row.keep hbel)
  have HBel := Lib.hid hbel
  have K := Lib.hid ((Blk.new w 42 #[.slice a n cap, .int .i64 (E 0), .int .i64 (E 1), .int .i64 (E 2), .int .i64 (E 3), .int .i64 m]).alloc (.cells #[.slice none 0 0, .int .i64 0, .int .i64 0, .int .i64 0, .int .i64 0, .int .i64 0] 42))
  have K' := Lib.hid (blkAt (Blk.new (w.alloc (.cells #[.slice a n cap, .int .i64 (E 0), .int .i64 (E 1), .int .i64 (E 2), .int .i64 (E 3), .int .i64 m] 42)) 42 #[.slice none 0 0, .int .i64 0, .int .i64 0, .int .i64 0, .int .i64 0, .int .i64 0]) (g' := w.heap.size + 1) (by simp))
  clear row hbel
  go_enter Try.func23, Try.ntmps23
  go_wp2_with fail
  refine (cloneP_any a n cap X _ HR.out hn).mono ?_
  rintro e w1 ⟨v, rfl, ho, q1⟩
  obtain ⟨a', cap', rfl, _, _, _⟩ := ho.row cPl_len
  have HV : Hid (VC w (w.heap.size + 2) (.slice a' X.length cap') X w1) := Lib.hid ⟨by simpa using ho, bthen HBel.out q1⟩
  have K1 := Lib.hid (K.out.keep q1)
  have K1' := Lib.hid (K'.out.keep q1)
  clear ho q1
  obtain ⟨c0, c1, c2, c3, c4, c5, f0, f1, f2, f3, f4, f5⟩ := blk6 K1.out
  obtain ⟨d0, d1, d2, d3, d4, d5, g0, g1, g2, g3, g4, g5⟩ := blk6 K1'.out
  go_wp2
  exact bodyPost_ret (v := .agg #[.slice a' X.length cap', .int .i64 (E 0), .int .i64 (E 1), .int .i64 (E 2), .int .i64 (E 3), .int .i64 m]) (by simp [results, Try.results23, go_sem, d0, d1, d2, d3, d4, d5]) rfl ⟨_, rfl, VC.set (VC.set (VC.set (VC.set (VC.set (VC.set (VC.set HV.out (Nat.le_refl _) (by omega)) (Nat.le_succ _) (by omega)) (Nat.le_succ _) (by omega)) (Nat.le_succ _) (by omega)) (Nat.le_succ _) (by omega)) (Nat.le_succ _) (by omega)) (Nat.le_succ _) (by omega)⟩
end Go.Proofs.Ytjcibffhlhdjeaa
