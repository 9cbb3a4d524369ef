/-
  A program's scene and the reference's, side by side; 'same' of the law ScenePlays of layer 11, for any package that answers as the bundle says.
-/
import Derived.Test.YtkondkajpmafkaaGreatMP40
namespace Go.Proofs.YtkondkajpmafkaaGreat
open Go.RowKit

/-- the program's scene and the reference's, side by side, each new since w0 -/
structure Duo11 (XB : World → Nat → (Nat → Prop) → Sc → Prop) (w0 w : World) (gp gr : Nat) (Fp Fq : Nat → Prop) (X Y : Sc) : Prop where
  p : XB w gp Fp X
  q : RSB w gr Fq Y
  far : ∀ b, Fp b → ¬ Fq b
  low : Below w0.heap.size w0 w
  np : ∀ b, Fp b → w0.heap.size ≤ b
  nq : ∀ b, Fq b → w0.heap.size ≤ b
section
variable {XB : World → Nat → (Nat → Prop) → Sc → Prop} {w0 w w' : World} {gp gr : Nat} {Fp Fq : Nat → Prop} {X Y X' Y' : Sc}
theorem Duo11.keep (hX : XC XB) (h : Duo11 XB w0 w gp gr Fp Fq X Y) (hb : Below w.heap.size w w') : Duo11 XB w0 w' gp gr Fp Fq X Y := ⟨hX.kb.keep h.p hb, kb_rsb.keep h.q hb, h.far, bthen h.low hb, h.np, h.nq⟩
theorem Duo11.prog (h : Duo11 XB w0 w gp gr Fp Fq X Y) (k : ChB XB w w' gp Fp X') : ∃ Fp', Duo11 XB w0 w' gp gr Fp' Fq X' Y := by
  obtain ⟨F', k1, k2, k3⟩ := k
  have hq := kb_rsb.inb _ _ _ _ h.q
  refine ⟨F', ⟨k1, kb_rsb.keep_ _ _ _ _ _ h.q (fun b hb => k2.2.2.2.2 b (hq b hb) (fun c => h.far b c hb)), fun b hb hc => ?_, Fr.below k2 h.low h.np h.low.size, fun b hb => ?_, h.nq⟩⟩
  · rcases k3 b hb with d | d
    · exact h.far b d hc
    · have := hq b hc; omega
  · rcases k3 b hb with d | d
    · exact h.np b d
    · exact Nat.le_trans h.low.size d
theorem Duo11.ref (hX : XC XB) (h : Duo11 XB w0 w gp gr Fp Fq X Y) (k : ChB RSB w w' gr Fq Y') : ∃ Fq', Duo11 XB w0 w' gp gr Fp Fq' X Y' := by
  obtain ⟨F', k1, k2, k3⟩ := k
  have hp := hX.kb.inb _ _ _ _ h.p
  refine ⟨F', ⟨hX.kb.keep_ _ _ _ _ _ h.p (fun b hb => k2.2.2.2.2 b (hp b hb) (fun c => h.far b hb c)), k1, fun b hb hc => ?_, Fr.below k2 h.low h.nq h.low.size, h.np, fun b hb => ?_⟩⟩
  · rcases k3 b hc with d | d
    · exact h.far b hb d
    · have := hp b hb; omega
  · rcases k3 b hb with d | d
    · exact h.nq b d
    · exact Nat.le_trans h.low.size d
end
theorem of_one (n : Nd) (W : World) (a : Nat) (k : Blk W a 56 (cNd n).toArray) : Calls Tryz.prog 46 #[.slice (some ⟨a, 0, none⟩) 1 1] W fun e w' => ∃ b cap, e = .returned (.slice (some ⟨b, 0, none⟩) 1 cap) ∧ w'.rangeAt b 0 (cNd n) ∧ b < w'.heap.size ∧ Below W.heap.size W w' := by
  have row : NRow W (some ⟨a, 0, none⟩) 1 [n] := ⟨rfl, by omega, Or.inr ⟨a, 0, rfl, k.lt, fun i x hx => by
    match i, hx with
    | 0, hx =>
      injection hx with hx
      rw [← hx, Nat.zero_mul, Nat.add_zero]
      exact blk_whole k
    | i + 1, hx => cases hx⟩⟩
  refine (lOf_any (some ⟨a, 0, none⟩) 1 1 [n] W row (by omega)).mono ?_
  rintro e w' ⟨v, rfl, ho, hb⟩
  obtain ⟨_, ho⟩ := ho
  rcases ho with ⟨_, h⟩ | ⟨g, cap, cur, rfl, _, hblk, _, _, _, h4⟩
  · exact absurd h (by simp)
  · have h5 : List.take 15 cur.toList = cNd n := h4.trans (by simp)
    refine ⟨g, cap, rfl, fun i v hv => ?_, (Array.getElem?_eq_some_iff.1 hblk).1, hb⟩
    rw [cell_of_row w' g (0 + i) cur _ _ hblk, Nat.zero_add]
    rw [← h5, List.getElem?_take] at hv
    split at hv
    · simpa using hv
    · cases hv
section
variable {XB : World → Nat → (Nat → Prop) → Sc → Prop}
set_option maxHeartbeats 16000000 in
set_option maxRecDepth 100000 in
theorem same11_any (hX : XC XB) {w : World} {gp gr : Nat} {Fp Fq : Nat → Prop} {X : Sc} (hs : XB w gp Fp X) (h0 : RSB w gr Fq X) (hW : WX X) (hB : BSc X 850) (since : Int) :
    Calls Tryz.prog 11 #[.pointer (some ⟨gp, 0, none⟩), .pointer (some ⟨gr, 0, none⟩), .int .i64 since] w fun e w' => e = .returned (.bool true) ∧ Below w.heap.size w w' := by
  have hB9 : BSc X 900 := hB.mono (by omega)
  have hBd : Bd X.S 1000 := hB.bd.mono (by omega)
  obtain ⟨gs, h⟩ := h0.open_
  have HRd : Hid (∀ u, Below w.heap.size w u → u.cell? ⟨gr, 0, none⟩ = some (.pointer (some ⟨gs, 0, none⟩)) ∧ gr < u.heap.size ∧ gs < u.heap.size) := Lib.hid (fun u q => (h.keep q).reads)
  obtain ⟨Fs, _, _, hS⟩ := h.withS
  obtain ⟨Ff, _, _, hF⟩ := h.withF
  have HRK : Hid (∀ u, Below w.heap.size w u → RB u gs Fs X.S) := Lib.hid (fun u q => (hS u q).1)
  have HAl : Hid (∀ u, Below w.heap.size w u → Calls Tryz.prog 15 #[.pointer (some ⟨gp, 0, none⟩)] u fun e w' => ∃ v, e = .returned v ∧ LRes u w' (alS X.S) v ∧ Below u.heap.size u w') := Lib.hid (fun u q => hX.all u gp Fp X hW hB9 (hX.kb.keep hs q))
  have HCh : Hid (∀ u, Below w.heap.size w u → Calls Tryz.prog 18 #[.pointer (some ⟨gp, 0, none⟩), .int .i64 since] u fun e w' => ∃ v, e = .returned v ∧ LRes u w' (chL X.S since) v ∧ Below u.heap.size u w') := Lib.hid (fun u q => hX.changed u gp Fp X since hW hB9 (hX.kb.keep hs q))
  have HGo : Hid (∀ u, Below w.heap.size w u → Calls Tryz.prog 19 #[.pointer (some ⟨gp, 0, none⟩), .int .i64 since] u fun e w' => ∃ v, e = .returned v ∧ LRes u w' (goL X.S since) v ∧ Below u.heap.size u w') := Lib.hid (fun u q => hX.gone u gp Fp X since hW hB9 (hX.kb.keep hs q))
  have HTi : Hid (∀ u, Below w.heap.size w u → Calls Tryz.prog 13 #[.pointer (some ⟨gp, 0, none⟩)] u fun e w' => e = .returned (.int .i64 X.S.now) ∧ Below u.heap.size u w') := Lib.hid (fun u q => hX.tick u gp Fp X hW hB9 (hX.kb.keep hs q))
  have HGe : Hid (∀ u id, Below w.heap.size w u → Calls Tryz.prog 17 #[.pointer (some ⟨gp, 0, none⟩), .int .i64 id] u fun e w' => e = .returned (.tuple #[.agg (pl (getP X.S id)).toArray, .bool (getB X.S id)]) ∧ Below u.heap.size u w') := Lib.hid (fun u id q => (hX.get u gp Fp X id hW hB9 (hX.kb.keep hs q)).mono fun _ _ ⟨Y, a, b, c⟩ => ⟨by rw [a, b], c⟩)
  have HRGe : Hid (∀ u id, Below w.heap.size w u → Calls Tryz.prog 42 #[.pointer (some ⟨gs, 0, none⟩), .int .i64 id] u fun e w' => e = .returned (.tuple #[.agg (pl (getP X.S id)).toArray, .bool (getB X.S id)]) ∧ Below u.heap.size u w') := Lib.hid (fun u id q => (rget_rb (hS u q).1 hW.ws hBd id).mono fun _ _ ⟨Y, a, b, c⟩ => ⟨by rw [a, b], c⟩)
  have HPa : Hid (∀ u id, Below w.heap.size w u → Rg id → Calls Tryz.prog 43 #[.pointer (some ⟨gp, 0, none⟩), .int .i64 id] u fun e w' => e = .returned (.tuple #[.int .i64 (parV (parO X.L id)), .bool (parO X.L id).isSome]) ∧ Below u.heap.size u w') := Lib.hid (fun u id q r => hX.parent u gp Fp X id hW hB9 (hX.kb.keep hs q) r)
  have HRPa : Hid (∀ u id, Below w.heap.size w u → Calls Tryz.prog 44 #[.pointer (some ⟨gr, 1, none⟩), .int .i64 id] u fun e w' => e = .returned (.tuple #[.int .i64 (parV (parO X.L id)), .bool (parO X.L id).isSome]) ∧ u = w') := Lib.hid (fun u id q => rpar_rgb (hF u q).1 id)
  have HNd : Hid (∀ u id, Below w.heap.size w u → Rg id → Calls Tryz.prog 16 #[.pointer (some ⟨gp, 0, none⟩), .int .i64 id] u fun e w' => e = .returned (.tuple #[.agg (cNd (nodeX X id)).toArray, .bool (getB X.S id)]) ∧ Below u.heap.size u w') := Lib.hid (fun u id q r => (hX.node u gp Fp X id hW hB9 (hX.kb.keep hs q) r).mono fun _ _ ⟨Y, a, b, c⟩ => ⟨by rw [a, b], c⟩)
  have HRNd : Hid (∀ u id, Below w.heap.size w u → Calls Tryz.prog 45 #[.pointer (some ⟨gr, 0, none⟩), .int .i64 id] u fun e w' => e = .returned (.tuple #[.agg (cNd (nodeX X id)).toArray, .bool (getB X.S id)]) ∧ Below u.heap.size u w') := Lib.hid (fun u id q => (xnode_any (kb_rsb.keep h0 q) hW hB9 id).mono fun _ _ ⟨Y, a, b, c⟩ => ⟨by rw [a, b], c⟩)
  have HNow : Hid (∀ u, Below w.heap.size w u → u.cell? ⟨gs, 577, none⟩ = some (.int .i64 X.S.now)) := Lib.hid (fun u q => (rnext8 (hS u q).1).1.1)
  have HRAl : Hid (∀ u, Below w.heap.size w u → Calls Tryz.prog 33 #[.pointer (some ⟨gs, 0, none⟩)] u fun e w' => ∃ a cap, e = .returned (.slice a (alS X.S).length cap) ∧ Row w' a (alS X.S).length (alS X.S) ∧ Below u.heap.size u w') := Lib.hid (fun u q => rall8 (hS u q).1 hW.ws)
  have HRg : Hid (∀ y ∈ alS X.S, Rg y) := Lib.hid (fun y hy => by
    have h2 := live_iff.1 ((mem_all hW.ws).1 hy)
    unfold Rg
    omega)
  have HBd := Lib.hid hBd
  obtain ⟨c0, hgr, hgs⟩ := HRd.out w (Below.refl _ _)
  clear hs h0 h hW hB hB9 hBd hS hF hX
  go_enter Tryz.func11, Tryz.ntmps11
  go_wp2_with fail
  refine (HRAl.out _ (Below.refl _ _)).mono ?_
  rintro e w1 ⟨la, lcap, rfl, lrow, b1⟩
  have HL := Lib.hid lrow
  have HB := Lib.hid b1
  clear lrow b1 c0 hgr hgs HRAl
  obtain ⟨n, hn⟩ : ∃ n, n = (alS X.S).length := ⟨_, rfl⟩
  rw [← hn] at HL ⊢
  have HN := Lib.hid hn
  clear hn
  go_wp2_with fail
  refine (HAl.out _ HB.out).mono ?_
  rintro e w2 ⟨v, rfl, ⟨ma, mcap, rfl, mrow, -⟩, b1⟩
  have HM := Lib.hid mrow
  replace HL := Lib.hid (row_keep HL.out b1)
  replace HB := Lib.hid (bthen HB.out b1)
  clear mrow b1
  go_wp2_with fail
  refine (psame_yes HM.out HL.out).mono ?_
  rintro e w3 ⟨rfl, b1⟩
  replace HL := Lib.hid (row_keep HL.out b1)
  replace HB := Lib.hid (bthen HB.out b1)
  clear HM b1 HAl
  go_upto_region 3 with fail
  refine fin (fun W => Row W la n (alS X.S) ∧ Below w.heap.size w W) ⟨HL.out, HB.out⟩ ?_
  clear HL HB
  rintro V3 ⟨hl, hb⟩
  have HL := Lib.hid (row_keep hl (drew_below _))
  have HB := Lib.hid (bthen hb (drew_below _))
  obtain ⟨c0, hgr, hgs⟩ := HRd.out _ hb
  clear hl hb
  refine wp_region_held_drew (S := fun w' => w'.cell? ⟨gr, 0, none⟩ = some (.pointer (some ⟨gs, 0, none⟩))) (by kernel_rfl) (c0) (fun hHeld => ?_)
  refine tk 0 hHeld ?_
  refine tk 1 hHeld ?_
  refine tk 3 hHeld ?_
  refine tk 4 hHeld ?_
  refine tk 5 hHeld ?_
  refine tk 6 hHeld ?_
  refine tk 7 hHeld ?_
  refine rd 2 (fun K hK => ?_)
  go_simp
  go_at_call 18
  refine (HCh.out _ HB.out).mono ?_
  rintro e w4 ⟨v, rfl, ⟨ma, mcap, rfl, mrow, -⟩, b1⟩
  have HM := Lib.hid mrow
  replace HL := Lib.hid (row_keep HL.out b1)
  replace HB := Lib.hid (bthen HB.out b1)
  clear mrow b1
  go_wp2_with fail
  refine hK.out _ _ ((HRd.out _ HB.out).1) (fun hHeld => ?_)
  clear hK K
  refine rd 8 (fun K hK => ?_)
  go_simp
  go_at_call 40
  refine (rchanged8_any (HRK.out _ HB.out) HBd.out since).mono ?_
  rintro e w5 ⟨v, rfl, ⟨na, ncap, rfl, mrow, -⟩, b1⟩
  have HM2 := Lib.hid mrow
  replace HL := Lib.hid (row_keep HL.out b1)
  replace HB := Lib.hid (bthen HB.out b1)
  replace HM := Lib.hid (row_keep HM.out b1)
  clear mrow b1
  go_wp2_with fail
  refine hK.out _ _ ((HRd.out _ HB.out).1) (fun hHeld => ?_)
  clear hK K
  refine rd 9 (fun K hK => ?_)
  go_simp
  go_at_call 25
  refine (psame_yes HM.out HM2.out).mono ?_
  rintro e w6 ⟨rfl, b1⟩
  replace HL := Lib.hid (row_keep HL.out b1)
  replace HB := Lib.hid (bthen HB.out b1)
  clear b1
  go_wp2_with fail
  refine hK.out _ _ ((HRd.out _ HB.out).1) (fun hHeld => ?_)
  clear hK K
  refine tk 10 hHeld ?_
  refine wpAnyH_done (by kernel_rfl) ?_ _
  clear hHeld HM HM2 c0 hgr hgs HCh
  go_upto_region 4 with fail
  refine fin (fun W => Row W la n (alS X.S) ∧ Below w.heap.size w W) ⟨HL.out, HB.out⟩ ?_
  clear HL HB
  rintro V4 ⟨hl, hb⟩
  have HL := Lib.hid (row_keep hl (drew_below _))
  have HB := Lib.hid (bthen hb (drew_below _))
  obtain ⟨c0, hgr, hgs⟩ := HRd.out _ hb
  clear hl hb
  refine wp_region_held_drew (S := fun w' => w'.cell? ⟨gr, 0, none⟩ = some (.pointer (some ⟨gs, 0, none⟩))) (by kernel_rfl) (c0) (fun hHeld => ?_)
  refine tk 0 hHeld ?_
  refine tk 1 hHeld ?_
  refine tk 3 hHeld ?_
  refine tk 4 hHeld ?_
  refine tk 5 hHeld ?_
  refine tk 6 hHeld ?_
  refine tk 7 hHeld ?_
  refine rd 2 (fun K hK => ?_)
  go_simp
  go_at_call 19
  refine (HGo.out _ HB.out).mono ?_
  rintro e w4 ⟨v, rfl, ⟨ma, mcap, rfl, mrow, -⟩, b1⟩
  have HM := Lib.hid mrow
  replace HL := Lib.hid (row_keep HL.out b1)
  replace HB := Lib.hid (bthen HB.out b1)
  clear mrow b1
  go_wp2_with fail
  refine hK.out _ _ ((HRd.out _ HB.out).1) (fun hHeld => ?_)
  clear hK K
  refine rd 8 (fun K hK => ?_)
  go_simp
  go_at_call 41
  refine (rgone8_any (HRK.out _ HB.out) HBd.out since).mono ?_
  rintro e w5 ⟨v, rfl, ⟨na, ncap, rfl, mrow, -⟩, b1⟩
  have HM2 := Lib.hid mrow
  replace HL := Lib.hid (row_keep HL.out b1)
  replace HB := Lib.hid (bthen HB.out b1)
  replace HM := Lib.hid (row_keep HM.out b1)
  clear mrow b1
  go_wp2_with fail
  refine hK.out _ _ ((HRd.out _ HB.out).1) (fun hHeld => ?_)
  clear hK K
  refine rd 9 (fun K hK => ?_)
  go_simp
  go_at_call 25
  refine (psame_yes HM.out HM2.out).mono ?_
  rintro e w6 ⟨rfl, b1⟩
  replace HL := Lib.hid (row_keep HL.out b1)
  replace HB := Lib.hid (bthen HB.out b1)
  clear b1
  go_wp2_with fail
  refine hK.out _ _ ((HRd.out _ HB.out).1) (fun hHeld => ?_)
  clear hK K
  refine tk 10 hHeld ?_
  refine wpAnyH_done (by kernel_rfl) ?_ _
  clear hHeld HM HM2 c0 hgr hgs HGo
  go_upto_region 5 with fail
  refine fin (fun W => Row W la n (alS X.S) ∧ Below w.heap.size w W) ⟨HL.out, HB.out⟩ ?_
  clear HL HB
  rintro V5 ⟨hl, hb⟩
  have HL := Lib.hid (row_keep hl (drew_below _))
  have HB := Lib.hid (bthen hb (drew_below _))
  obtain ⟨c0, hgr, hgs⟩ := HRd.out _ hb
  obtain ⟨nw, hnw⟩ : ∃ nw, nw = X.S.now := ⟨_, rfl⟩
  rw [← hnw] at HNow HTi
  have c1 := HNow.out _ hb
  clear hl hb hnw
  refine wp_region_held_drew (S := fun w' => w'.cell? ⟨gr, 0, none⟩ = some (.pointer (some ⟨gs, 0, none⟩)) ∧ w'.cell? ⟨gs, 577, none⟩ = some (.int .i64 nw)) (by kernel_rfl) (⟨c0, c1⟩) (fun hHeld => ?_)
  refine tk 0 hHeld ?_
  refine tk 1 hHeld ?_
  refine tk 2 hHeld ?_
  refine tk 3 hHeld ?_
  refine tk 4 hHeld ?_
  refine tk 5 hHeld ?_
  refine tk 6 hHeld ?_
  refine tk 7 hHeld ?_
  refine tk 8 hHeld ?_
  refine tk 9 hHeld ?_
  refine tk 10 hHeld ?_
  refine tk 11 hHeld ?_
  refine tk 13 hHeld ?_
  refine tk 14 hHeld ?_
  refine tk 15 hHeld ?_
  refine tk 16 hHeld ?_
  refine tk 17 hHeld ?_
  refine tk 18 hHeld ?_
  refine tk 19 hHeld ?_
  refine rd 12 (fun K hK => ?_)
  go_simp
  go_at_call 13
  refine (HTi.out _ HB.out).mono ?_
  rintro e w8 ⟨rfl, b1⟩
  replace HL := Lib.hid (row_keep HL.out b1)
  replace HB := Lib.hid (bthen HB.out b1)
  clear b1
  go_wp2_with fail
  refine hK.out _ _ (⟨(HRd.out _ HB.out).1, HNow.out _ HB.out⟩) (fun hHeld => ?_)
  clear hK K
  refine tk 20 hHeld ?_
  refine tk 21 hHeld ?_
  refine wpAnyH_done (by kernel_rfl) ?_ _
  clear hHeld c0 c1 hgr hgs HNow HTi HRK HBd
  refine fin (fun W => Row W la n (alS X.S) ∧ Below w.heap.size w W) ⟨HL.out, HB.out⟩ ?_
  clear HL HB
  rintro W8 ⟨hl, hb⟩
  have HL := Lib.hid hl
  have HB0 := Lib.hid hb
  clear hl hb
  go_wp2
  go_loopw [11, 12, 13, 14, 15, 16, 17, 18, 19, 20, 21, 22, 23] (fun v11 _ _ _ _ _ _ _ _ _ _ _ _ wq => ∃ j : Nat, j ≤ n ∧ v11 = .int .i64 j ∧ Below W8.heap.size W8 wq) (fun v11 _ _ _ _ _ _ _ _ _ _ _ _ _ => n - (intOf v11).toNat)
  case atStart => exact ⟨0, by omega, rfl, Below.refl _ _⟩
  case round =>
    obtain ⟨j, hj, rfl, hb⟩ := hrel
    have HB := Lib.hid hb
    clear hb
    by_cases hjn : j < n
    · have j0 : (0 : Int) ≤ (j : Int) := by omega
      have j1 : (j : Int) < (n : Int) := by omega
      have hbig := HL.out.2.1
      obtain ⟨ab, aoff, y, rfl, hy, cy⟩ := row_at (row_keep HL.out HB.out) hjn
      have HRy := Lib.hid (HRg.out y (List.mem_of_getElem? hy))
      have hab := World.block_lt_of_cell? _ _ cy
      have HCy : Hid (∀ u, Below wr.heap.size wr u → u.cell? ⟨ab, aoff + j, none⟩ = some (.int .i64 y) ∧ ab < u.heap.size) := Lib.hid (fun u q => ⟨cell_keep cy q, Nat.lt_of_lt_of_le hab q.size⟩)
      have HBW : Hid (∀ u, Below wr.heap.size wr u → Below w.heap.size w u) := Lib.hid (fun u q => bthen (bthen HB0.out HB.out) q)
      have HB8 : Hid (∀ u, Below wr.heap.size wr u → Below W8.heap.size W8 u) := Lib.hid (fun u q => bthen HB.out q)
      have HG1 : Hid (∀ u, Below wr.heap.size wr u → Calls Tryz.prog 17 #[.pointer (some ⟨gp, 0, none⟩), .int .i64 y] u fun e w' => e = .returned (.tuple #[.agg (pl (getP X.S y)).toArray, .bool (getB X.S y)]) ∧ Below u.heap.size u w') := Lib.hid (fun u q => HGe.out u y (HBW.out u q))
      have HG2 : Hid (∀ u, Below wr.heap.size wr u → Calls Tryz.prog 42 #[.pointer (some ⟨gs, 0, none⟩), .int .i64 y] u fun e w' => e = .returned (.tuple #[.agg (pl (getP X.S y)).toArray, .bool (getB X.S y)]) ∧ Below u.heap.size u w') := Lib.hid (fun u q => HRGe.out u y (HBW.out u q))
      have HN1 : Hid (∀ u, Below wr.heap.size wr u → Calls Tryz.prog 16 #[.pointer (some ⟨gp, 0, none⟩), .int .i64 y] u fun e w' => e = .returned (.tuple #[.agg (cNd (nodeX X y)).toArray, .bool (getB X.S y)]) ∧ Below u.heap.size u w') := Lib.hid (fun u q => HNd.out u y (HBW.out u q) HRy.out)
      have HN2 : Hid (∀ u, Below wr.heap.size wr u → Calls Tryz.prog 45 #[.pointer (some ⟨gr, 0, none⟩), .int .i64 y] u fun e w' => e = .returned (.tuple #[.agg (cNd (nodeX X y)).toArray, .bool (getB X.S y)]) ∧ Below u.heap.size u w') := Lib.hid (fun u q => HRNd.out u y (HBW.out u q))
      have HP1 : Hid (∀ u, Below wr.heap.size wr u → Calls Tryz.prog 43 #[.pointer (some ⟨gp, 0, none⟩), .int .i64 y] u fun e w' => e = .returned (.tuple #[.int .i64 (parV (parO X.L y)), .bool (parO X.L y).isSome]) ∧ Below u.heap.size u w') := Lib.hid (fun u q => HPa.out u y (HBW.out u q) HRy.out)
      have HP2 : Hid (∀ u, Below wr.heap.size wr u → Calls Tryz.prog 44 #[.pointer (some ⟨gr, 1, none⟩), .int .i64 y] u fun e w' => e = .returned (.tuple #[.int .i64 (parV (parO X.L y)), .bool (parO X.L y).isSome]) ∧ u = w') := Lib.hid (fun u q => HRPa.out u y (HBW.out u q))
      have HPX : Hid (PXs (pl (getP X.S y))) := Lib.hid ⟨pl_len _, pl_size _, pl_size' _, pl_one _⟩
      have HEP : Hid (∀ w, (Op.equalIn 10000 43 (.agg (pl (getP X.S y)).toArray) (.agg (pl (getP X.S y)).toArray)).run Tryz.prog w = .ok true w) := Lib.hid (by intro w; rw [eqT_run, eqT_self])
      have HEN : Hid (∀ w, (Op.equalIn 10000 101 (.agg (cNd (nodeX X y)).toArray) (.agg (cNd (nodeX X y)).toArray)).run Tryz.prog w = .ok true w) := Lib.hid (eqNdR _)
      have HNF : Hid (NXs (cNd (nodeX X y)) 56) := Lib.hid ⟨rfl, by kernel_rfl, by kernel_rfl, all_oneCell_toArray (cNd_one _)⟩
      have HNR := Lib.hid (nx_ref (nodeX X y))
      have HBs := Lib.hid (bs_nodeF (nodeX X y))
      have HOf := Lib.hid (of_one (nodeX X y))
      obtain ⟨ok, hok⟩ : ∃ ok, ok = getB X.S y := ⟨_, rfl⟩
      obtain ⟨pv, hpv⟩ : ∃ pv, pv = parV (parO X.L y) := ⟨_, rfl⟩
      obtain ⟨is, his⟩ : ∃ is, is = (parO X.L y).isSome := ⟨_, rfl⟩
      obtain ⟨XP, hXP⟩ : ∃ XP, XP = pl (getP X.S y) := ⟨_, rfl⟩
      obtain ⟨XN, hXN⟩ : ∃ XN, XN = cNd (nodeX X y) := ⟨_, rfl⟩
      rw [← hok, ← hXP] at HG1 HG2
      rw [← hok, ← hXN] at HN1 HN2
      rw [← hpv, ← his] at HP1 HP2
      rw [← hXP] at HPX HEP
      rw [← hXN] at HEN HNF HNR HBs HOf
      clear hy hok hpv his hXP hXN HRy
      go_wp2_with fail
      refine (HG1.out _ (Below.refl _ _)).mono ?_
      rintro e w9 ⟨rfl, b9⟩
      have hal : Below w9.heap.size w9 (w9.alloc (.cells Z24.toArray 43)) := alloc_below _ _
      have hbs : Below w9.heap.size w9 ((w9.alloc (.cells Z24.toArray 43)).setCells w9.heap.size 0 XP) := below_setCells XP hal (Nat.le_refl _)
      have HT12 : Hid ((w9.alloc (.cells Z24.toArray 43)).there w9.heap.size 0 XP.toArray.size) := Lib.hid (blk_there (Blk.new w9 _ _) (by rw [List.size_toArray, HPX.out.1]; exact Nat.le_refl 24))
      have HE12 : Hid (Blk ((w9.alloc (.cells Z24.toArray 43)).setCells w9.heap.size 0 XP) w9.heap.size 43 XP.toArray ∧ Below wr.heap.size wr ((w9.alloc (.cells Z24.toArray 43)).setCells w9.heap.size 0 XP)) := Lib.hid ⟨blk_over (Blk.new w9 _ _) (by rw [HPX.out.1]; rfl), bthen b9 hbs⟩
      clear b9 hal hbs cy hab HG1
      go_upto_region 11 with (refine wpList_store_mid rfl 43 (.tmp 12) (.tmp 90) rfl w9.heap.size 0 XP.toArray rfl rfl HT12.out HPX.out.2.2.1 HPX.out.2.2.2 ?_)
      refine fin (fun W => Blk W w9.heap.size 43 XP.toArray ∧ Below wr.heap.size wr W) HE12.out ?_
      clear HE12 HT12
      obtain ⟨g12, hg12⟩ : ∃ g, g = w9.heap.size := ⟨_, rfl⟩
      rw [← hg12]
      rintro W9 ⟨k12, hbr⟩
      have K12 := Lib.hid k12
      have HBr := Lib.hid hbr
      clear k12 hbr hg12
      refine same_r11 (g := gr) (gs := gs) (y := y) (XP := XP) (ok := ok) (fun _ _ d _ _ h => by cases d <;> exact h) j0 j1 (fun W q => ⟨(HRd.out W (HBW.out W (bthen HBr.out q))).1, (HCy.out W (bthen HBr.out q)).1⟩) (fun W q => HG2.out W (bthen HBr.out q)) HPX.out ?_
      intro W10 g14 hb10 k14
      have K14 := Lib.hid k14
      replace K12 := Lib.hid (K12.out.keep hb10)
      replace HBr := Lib.hid (bthen HBr.out hb10)
      obtain ⟨cy, hab⟩ := HCy.out W10 HBr.out
      clear k14 hb10 HG2
      go_wp2_with fail
      refine (HP1.out _ HBr.out).mono ?_
      rintro e w11 ⟨rfl, b11⟩
      replace K14 := Lib.hid (K14.out.keep b11)
      replace K12 := Lib.hid (K12.out.keep b11)
      replace HBr := Lib.hid (bthen HBr.out b11)
      clear b11 cy hab HP1
      go_upto_region 13 with fail
      refine fin (fun W => Blk W g14 43 XP.toArray ∧ Blk W g12 43 XP.toArray ∧ Below wr.heap.size wr W) ⟨K14.out, K12.out, HBr.out⟩ ?_
      clear K14 K12 HBr
      rintro W11 ⟨k14, k12, hbr⟩
      have K14 := Lib.hid (k14.keep (drew_below _))
      have K12 := Lib.hid (k12.keep (drew_below _))
      have HBr := Lib.hid (bthen hbr (drew_below _))
      obtain ⟨-, hgr, -⟩ := HRd.out W11 (HBW.out W11 hbr)
      clear k14 k12 hbr
      have cyd := (HCy.out _ HBr.out).1
      refine wp_region_held_drew (S := fun w' => w'.cell? ⟨ab, aoff + j, none⟩ = some (.int .i64 y)) (by kernel_rfl) (cyd) (fun hHeld => ?_)
      refine tk 0 hHeld ?_
      refine tk 1 hHeld ?_
      refine tk 2 hHeld ?_
      refine tk 3 hHeld ?_
      refine tk 4 hHeld ?_
      refine tk 5 hHeld ?_
      refine tk 6 hHeld ?_
      refine rd 7 (fun K hK => ?_)
      go_simp
      go_at_call 44
      refine (HP2.out _ HBr.out).mono ?_
      rintro e w12 ⟨rfl, rfl⟩
      go_wp2_with fail
      refine hK.out _ _ (cyd) (fun hHeld => ?_)
      clear hK K
      refine tk 8 hHeld ?_
      refine tk 9 hHeld ?_
      refine tk 10 hHeld ?_
      refine tk 11 hHeld ?_
      refine tk 12 hHeld ?_
      refine wpAnyH_done (by kernel_rfl) ?_ _
      clear hHeld cyd hgr HP2
      obtain ⟨cy, hab⟩ := HCy.out _ HBr.out
      go_wp2_with fail
      refine (HN1.out _ HBr.out).mono ?_
      rintro e w13 ⟨rfl, b13⟩
      have hal : Below w13.heap.size w13 (w13.alloc (.cells (cNd n0d).toArray 56)) := alloc_below _ _
      have hbs : Below w13.heap.size w13 ((w13.alloc (.cells (cNd n0d).toArray 56)).setCells w13.heap.size 0 XN) := below_setCells XN hal (Nat.le_refl _)
      have HT20 : Hid ((w13.alloc (.cells (cNd n0d).toArray 56)).there w13.heap.size 0 XN.toArray.size) := Lib.hid (blk_there (Blk.new w13 _ _) (by rw [List.size_toArray, HNF.out.len]; exact Nat.le_refl 15))
      have HE20 : Hid (Blk ((w13.alloc (.cells (cNd n0d).toArray 56)).setCells w13.heap.size 0 XN) w13.heap.size 56 XN.toArray ∧ Blk ((w13.alloc (.cells (cNd n0d).toArray 56)).setCells w13.heap.size 0 XN) g14 43 XP.toArray ∧ Blk ((w13.alloc (.cells (cNd n0d).toArray 56)).setCells w13.heap.size 0 XN) g12 43 XP.toArray ∧ Below wr.heap.size wr ((w13.alloc (.cells (cNd n0d).toArray 56)).setCells w13.heap.size 0 XN)) := Lib.hid ⟨blk_over (Blk.new w13 _ _) (by rw [HNF.out.len]; rfl), (K14.out.keep b13).keep hbs, (K12.out.keep b13).keep hbs, bthen (bthen HBr.out b13) hbs⟩
      clear b13 hal hbs cy hab HN1 K14 K12 HBr
      go_upto_region 15 with (refine wpList_store_mid rfl 56 (.tmp 20) (.tmp 131) rfl w13.heap.size 0 XN.toArray rfl rfl HT20.out HNF.out.sizea HNF.out.onea ?_)
      refine fin (fun W => Blk W w13.heap.size 56 XN.toArray ∧ Blk W g14 43 XP.toArray ∧ Blk W g12 43 XP.toArray ∧ Below wr.heap.size wr W) HE20.out ?_
      clear HE20 HT20
      obtain ⟨g20, hg20⟩ : ∃ g, g = w13.heap.size := ⟨_, rfl⟩
      rw [← hg20]
      rintro W13 ⟨k20, k14, k12, hbr⟩
      have K20 := Lib.hid k20
      have K14 := Lib.hid k14
      have K12 := Lib.hid k12
      have HBr := Lib.hid hbr
      obtain ⟨cy, hab⟩ := HCy.out _ hbr
      clear k20 k14 k12 hbr hg20
      go_wp2_with fail
      refine (HN2.out _ HBr.out).mono ?_
      rintro e w14 ⟨rfl, b14⟩
      have hal : Below w14.heap.size w14 (w14.alloc (.cells (cNd n0d).toArray 101)) := alloc_below _ _
      have hbs : Below w14.heap.size w14 ((w14.alloc (.cells (cNd n0d).toArray 101)).setCells w14.heap.size 0 XN) := below_setCells XN hal (Nat.le_refl _)
      have HT22 : Hid ((w14.alloc (.cells (cNd n0d).toArray 101)).there w14.heap.size 0 XN.toArray.size) := Lib.hid (blk_there (Blk.new w14 _ _) (by rw [List.size_toArray, HNF.out.len]; exact Nat.le_refl 15))
      have HE22 : Hid (Blk ((w14.alloc (.cells (cNd n0d).toArray 101)).setCells w14.heap.size 0 XN) w14.heap.size 101 XN.toArray ∧ Blk ((w14.alloc (.cells (cNd n0d).toArray 101)).setCells w14.heap.size 0 XN) g20 56 XN.toArray ∧ Blk ((w14.alloc (.cells (cNd n0d).toArray 101)).setCells w14.heap.size 0 XN) g14 43 XP.toArray ∧ Blk ((w14.alloc (.cells (cNd n0d).toArray 101)).setCells w14.heap.size 0 XN) g12 43 XP.toArray ∧ Below wr.heap.size wr ((w14.alloc (.cells (cNd n0d).toArray 101)).setCells w14.heap.size 0 XN)) := Lib.hid ⟨blk_over (Blk.new w14 _ _) (by rw [HNF.out.len]; rfl), (K20.out.keep b14).keep hbs, (K14.out.keep b14).keep hbs, (K12.out.keep b14).keep hbs, bthen (bthen HBr.out b14) hbs⟩
      clear b14 hal hbs cy hab HN2 K20 K14 K12 HBr
      go_upto_region 16 with (refine wpList_store_mid rfl 101 (.tmp 22) (.tmp 140) rfl w14.heap.size 0 XN.toArray rfl rfl HT22.out HNR.out.sizea HNR.out.onea ?_)
      refine fin (fun W => Blk W w14.heap.size 101 XN.toArray ∧ Blk W g20 56 XN.toArray ∧ Blk W g14 43 XP.toArray ∧ Blk W g12 43 XP.toArray ∧ Below wr.heap.size wr W) HE22.out ?_
      clear HE22 HT22
      obtain ⟨g22, hg22⟩ : ∃ g, g = w14.heap.size := ⟨_, rfl⟩
      rw [← hg22]
      rintro W14 ⟨k22, k20, k14, k12, hbr⟩
      have HB9 := Lib.hid (HB8.out _ hbr)
      refine same_r16 (ok := ok) (is := is) (ok2 := ok) (pv := pv) (fun _ _ d _ _ h => by cases d <;> exact h) (fun W q => ⟨blk_whole (k12.keep q), blk_whole (k14.keep q), blk_whole (k20.keep q), blk_whole (k22.keep q)⟩) HPX.out HNF.out.size HNR.out.size HEP.out HEN.out HBs.out HOf.out ?_
      intro W15 a1 b1 cap1 hb15
      replace HB9 := Lib.hid (bthen HB9.out hb15)
      clear k22 k20 k14 k12 hbr hg22 hb15 HPX HNF HNR HEP HEN HBs HOf HCy HBW HB8
      go_wp2
      go_roundw
      case rel => exact ⟨j + 1, by omega, by go_num, HB9.out⟩
      case measure => simp [intOf] <;> omega
    · obtain rfl : j = n := by omega
      have HB9 := Lib.hid (bthen HB0.out HB.out)
      have j1 : ¬ (j : Int) < (j : Int) := by omega
      go_wp2
      go_ret
      exact ⟨rfl, HB9.out⟩
end
end Go.Proofs.YtkondkajpmafkaaGreat
