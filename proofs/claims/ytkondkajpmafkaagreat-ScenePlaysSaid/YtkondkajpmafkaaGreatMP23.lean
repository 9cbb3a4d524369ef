/-
  The reference's store: what its Put and Cut of layer 8 answer.
-/
import Derived.Test.YtkondkajpmafkaaGreatMP22
namespace Go.Proofs.YtkondkajpmafkaaGreat
open Go.RowKit

theorem px8 (P : PT) : PXs (pl P) := ⟨pl_len _, pl_size _, pl_size' _, pl_one _⟩

set_option maxHeartbeats 4000000 in
set_option maxRecDepth 100000 in
theorem rput8_any {w : World} {g : Nat} {F : Nat → Prop} {S : St} (h0 : RB w g F S) (hW : WS S) (hB : Bd S 1000) (id : Int) (Q : PT) (a : Option Addr) (n cap : Nat) (ks : List Int) (row : Row w a n ks) :
    Calls Tryz.prog 35 #[.pointer (some ⟨g, 0, none⟩), .int .i64 id, .agg (pl Q).toArray, .slice a n cap] w fun e w' => e = .returned (.int .i64 (puE S id Q ks)) ∧ Chg RB w w' g F (puS S id Q ks) := by
  have HRB := Lib.hid h0
  have HRow := Lib.hid row
  have HGet : Hid (∀ u, Below w.heap.size w u → Calls Tryz.prog 42 #[.pointer (some ⟨g, 0, none⟩), .int .i64 id] u fun e w' => ∃ Y, e = .returned (.tuple #[.agg (List.toArray Y), .bool (getB S id)]) ∧ Y = pl (getP S id) ∧ Below u.heap.size u w') := Lib.hid (fun u k => by
    obtain ⟨tv, cv, gv, h, hF⟩ := h0
    exact rget_any (h.keep k) hW hB.2.2.1 id)
  have hg : g < w.heap.size := by obtain ⟨tv, cv, gv, h, hF⟩ := h0; exact h.row.lt
  obtain ⟨P, hP⟩ : ∃ P, P = getP S id := ⟨_, rfl⟩
  have HWi : Hid (∀ u Y, Y = pl P → Row u a n ks → Calls Tryz.prog 69 #[.agg Y.toArray, .agg (pl Q).toArray, .slice a n cap] u fun e w' => ∃ Z, e = .returned (.tuple #[.agg (List.toArray Z), .int .i64 (withE P Q ks)]) ∧ Z = pl (withV P Q ks) ∧ Below u.heap.size u w') := Lib.hid (fun u Y hY hr => by
    subst hY
    exact (rwith_any P Q a n cap ks u hr).mono fun _ _ q => ⟨_, q.1, rfl, q.2⟩)
  have HLay : Hid (∀ i, atS S id = some i → withE P Q ks = 0 → ∀ u Z, Z = pl (withV P Q ks) → Below w.heap.size w u → Calls Tryz.prog 70 #[.pointer (some ⟨g, 0, none⟩), .int .i64 id, .agg (List.toArray Z)] u fun e w' => e = .returned (.tuple #[]) ∧ Chg RB w w' g F (puS S id Q ks)) := Lib.hid (fun i ha he u Z hZ hb => by
    subst hZ
    have hee : puE S id Q ks = 0 := by
      unfold puE
      rw [show getB S id = true by unfold getB; rw [ha]; rfl, ← hP]
      simpa using he
    obtain ⟨i', ha', hrt⟩ := pu_at hee
    rw [← hP] at hrt
    refine (rlay8_any (h0.keep hb) hB id ha (withV P Q ks) hrt).mono fun _ _ q => ⟨q.1, ?_⟩
    have h3 : puS S id Q ks = layS S id (withV P Q ks) := by unfold puS; rw [if_pos hee, hP]
    rw [h3]
    exact q.2.of hb)
  have HSq := Lib.hid (pl_size Q)
  obtain ⟨Xq, hXq⟩ : ∃ Xq, Xq = pl Q := ⟨_, rfl⟩
  rw [← hXq] at HWi HSq ⊢
  have KQ0 := Lib.hid (Blk.new w 43 Xq.toArray)
  have HB : Hid (Below w.heap.size w (w.alloc (.cells Xq.toArray 43))) := Lib.hid (alloc_below _ _)
  clear hXq
  have HP := Lib.hid hP
  cases ha : atS S id with
  | none =>
    have e3 : getB S id = false := by unfold getB; rw [ha]; rfl
    have e1 : Hid (puE S id Q ks = 4) := Lib.hid (by unfold puE; rw [e3]; rfl)
    have e2 : Hid (puS S id Q ks = S) := Lib.hid (by unfold puS; rw [e1.out]; rfl)
    rw [e3] at HGet
    clear e3 ha hP row h0 hW hB
    go_enter Tryz.func35, Tryz.ntmps35
    go_wp2_with fail
    refine (HGet.out _ HB.out).mono ?_
    rintro e w1 ⟨Y, rfl, hY, b1⟩
    have HPX : Hid (PXs Y) := Lib.hid (by rw [hY]; exact px8 _)
    replace HB := Lib.hid (bthen HB.out b1)
    clear hY b1
    have KA := Lib.hid (Blk.new w1 43 Z24.toArray)
    have HTA : Hid ((w1.alloc (.cells Z24.toArray 43)).there w1.heap.size 0 Y.toArray.size) := Lib.hid (blk_there KA.out (by rw [List.size_toArray, HPX.out.1]; exact Nat.le_refl 24))
    have HBA : Hid (Below w1.heap.size w1 ((w1.alloc (.cells Z24.toArray 43)).setCells w1.heap.size 0 Y)) := Lib.hid (below_setCells Y (alloc_below _ _) (Nat.le_refl _))
    have LA : Hid (Blk ((w1.alloc (.cells Z24.toArray 43)).setCells w1.heap.size 0 Y) w1.heap.size 43 Y.toArray) := Lib.hid (by
      have := blk_setCells Y (o := 0) KA.out (by rw [HPX.out.1]; exact Nat.le_refl 24)
      rwa [splice_all (by rw [HPX.out.1]; rfl)] at this)
    go_upto_region 2 with (refine wpList_store_mid rfl 43 (.tmp 9) (.tmp 17) rfl w1.heap.size 0 Y.toArray rfl rfl HTA.out HPX.out.2.2.1 HPX.out.2.2.2 ?_)
    refine fin (fun W => Below w.heap.size w W) (bthen HB.out HBA.out) ?_
    rintro W hb
    have HBW := Lib.hid hb
    clear hb
    go_wp2
    go_ret
    exact ⟨by rw [e1.out]; rfl, by rw [e2.out]; exact Chg.still HRB.out HBW.out⟩
  | some i =>
    have e3 : getB S id = true := by unfold getB; rw [ha]; rfl
    have HE : Hid (puE S id Q ks = withE P Q ks) := Lib.hid (by unfold puE; rw [e3, hP]; rfl)
    have HNo : Hid (withE P Q ks ≠ 0 → puS S id Q ks = S) := Lib.hid (fun c => by unfold puS; rw [HE.out, if_neg c])
    have HAt := Lib.hid ha
    rw [e3] at HGet
    clear e3 ha hP row h0 hW hB
    go_enter Tryz.func35, Tryz.ntmps35
    go_wp2_with fail
    refine (HGet.out _ HB.out).mono ?_
    rintro e w1 ⟨Y, rfl, hY, b1⟩
    have HPX : Hid (PXs Y) := Lib.hid (by rw [hY]; exact px8 _)
    have HY : Hid (Y = pl P) := Lib.hid (by rw [hY, HP.out])
    replace HB := Lib.hid (bthen HB.out b1)
    replace KQ0 := Lib.hid (Blk.keep KQ0.out b1)
    clear hY b1
    have KA := Lib.hid (Blk.new w1 43 Z24.toArray)
    have HTA : Hid ((w1.alloc (.cells Z24.toArray 43)).there w1.heap.size 0 Y.toArray.size) := Lib.hid (blk_there KA.out (by rw [List.size_toArray, HPX.out.1]; exact Nat.le_refl 24))
    have HBA : Hid (Below w1.heap.size w1 ((w1.alloc (.cells Z24.toArray 43)).setCells w1.heap.size 0 Y)) := Lib.hid (below_setCells Y (alloc_below _ _) (Nat.le_refl _))
    have LA : Hid (Blk ((w1.alloc (.cells Z24.toArray 43)).setCells w1.heap.size 0 Y) w1.heap.size 43 Y.toArray) := Lib.hid (by
      have := blk_setCells Y (o := 0) KA.out (by rw [HPX.out.1]; exact Nat.le_refl 24)
      rwa [splice_all (by rw [HPX.out.1]; rfl)] at this)
    go_upto_region 2 with (refine wpList_store_mid rfl 43 (.tmp 9) (.tmp 17) rfl w1.heap.size 0 Y.toArray rfl rfl HTA.out HPX.out.2.2.1 HPX.out.2.2.2 ?_)
    refine fin (fun W => Blk W w1.heap.size 43 Y.toArray ∧ Blk W w.heap.size 43 Xq.toArray ∧ Below w.heap.size w W) ⟨LA.out, Blk.keep KQ0.out HBA.out, bthen HB.out HBA.out⟩ ?_
    obtain ⟨g9, hg9⟩ : ∃ g9, g9 = w1.heap.size := ⟨_, rfl⟩
    rw [← hg9]
    clear KA HTA HBA LA HB hg9 KQ0
    rintro W ⟨k9, kq, hb⟩
    have K9 := Lib.hid k9
    have KQ := Lib.hid kq
    have HB := Lib.hid hb
    have hl9 := k9.lt
    have hlq := kq.lt
    clear k9 kq hb
    go_wp2_with (first | refine wpList_load_mid rfl 43 (.tmp 9) rfl g9 0 rfl Y _ (blk_whole K9.out) Tryz.underlying43 rfl HPX.out.2.1 ?_ | refine wpList_load_mid rfl 43 (.tmp 6) rfl w.heap.size 0 rfl Xq _ (blk_whole KQ.out) Tryz.underlying43 rfl HSq.out ?_)
    refine (HWi.out _ Y HY.out (row_keep HRow.out HB.out)).mono ?_
    rintro e w3 ⟨Z, rfl, hZ, b3⟩
    have HZX : Hid (PXs Z) := Lib.hid (by rw [hZ]; exact px8 _)
    have HZ := Lib.hid hZ
    replace HB := Lib.hid (bthen HB.out b3)
    clear hZ b3 K9 hl9 KQ hlq
    have KA := Lib.hid (Blk.new w3 43 Z24.toArray)
    have HTA : Hid ((w3.alloc (.cells Z24.toArray 43)).there w3.heap.size 0 Z.toArray.size) := Lib.hid (blk_there KA.out (by rw [List.size_toArray, HZX.out.1]; exact Nat.le_refl 24))
    have HBA : Hid (Below w3.heap.size w3 ((w3.alloc (.cells Z24.toArray 43)).setCells w3.heap.size 0 Z)) := Lib.hid (below_setCells Z (alloc_below _ _) (Nat.le_refl _))
    have LA : Hid (Blk ((w3.alloc (.cells Z24.toArray 43)).setCells w3.heap.size 0 Z) w3.heap.size 43 Z.toArray) := Lib.hid (by
      have := blk_setCells Z (o := 0) KA.out (by rw [HZX.out.1]; exact Nat.le_refl 24)
      rwa [splice_all (by rw [HZX.out.1]; rfl)] at this)
    go_upto_region 5 with (refine wpList_store_mid rfl 43 (.tmp 11) (.tmp 26) rfl w3.heap.size 0 Z.toArray rfl rfl HTA.out HZX.out.2.2.1 HZX.out.2.2.2 ?_)
    refine fin (fun W => Blk W w3.heap.size 43 Z.toArray ∧ Below w.heap.size w W) ⟨LA.out, bthen HB.out HBA.out⟩ ?_
    obtain ⟨gz, hgz⟩ : ∃ gz, gz = w3.heap.size := ⟨_, rfl⟩
    rw [← hgz]
    clear KA HTA HBA LA HB hgz
    rintro W ⟨kz, hb⟩
    have KZ := Lib.hid kz
    have HB := Lib.hid hb
    have hlz := kz.lt
    clear kz hb
    obtain ⟨we, hwe⟩ : ∃ we, we = withE P Q ks := ⟨_, rfl⟩
    rw [← hwe] at HE HNo HLay ⊢
    clear hwe
    by_cases hz : we = 0
    · subst hz
      have HLay2 := Lib.hid (HLay.out i HAt.out rfl)
      clear HLay HNo
      go_wp2_with (refine wpList_load_mid rfl 43 (.tmp 11) rfl gz 0 rfl Z _ (blk_whole KZ.out) Tryz.underlying43 rfl HZX.out.2.1 ?_)
      refine (HLay2.out _ Z HZ.out HB.out).mono ?_
      rintro e w5 ⟨rfl, ch⟩
      have HCh := Lib.hid ch
      clear ch
      go_wp2
      go_ret
      exact ⟨by rw [HE.out]; rfl, HCh.out⟩
    · have hz' : (we == 0) = false := by simpa using hz
      have HNo2 := Lib.hid (HNo.out hz)
      clear hz
      go_wp2
      go_ret
      exact ⟨by rw [HE.out]; rfl, by rw [HNo2.out]; exact Chg.still HRB.out HB.out⟩

set_option maxHeartbeats 4000000 in
set_option maxRecDepth 100000 in
theorem rcut8_any {w : World} {g : Nat} {F : Nat → Prop} {S : St} (h0 : RB w g F S) (hW : WS S) (hB : Bd S 1000) (id : Int) (a : Option Addr) (n cap : Nat) (ks : List Int) (row : Row w a n ks) :
    Calls Tryz.prog 36 #[.pointer (some ⟨g, 0, none⟩), .int .i64 id, .slice a n cap] w fun e w' => e = .returned (.int .i64 (cuE S id ks)) ∧ Chg RB w w' g F (cuS S id ks) := by
  have HRB := Lib.hid h0
  have HRow := Lib.hid row
  have HGet : Hid (∀ u, Below w.heap.size w u → Calls Tryz.prog 42 #[.pointer (some ⟨g, 0, none⟩), .int .i64 id] u fun e w' => ∃ Y, e = .returned (.tuple #[.agg (List.toArray Y), .bool (getB S id)]) ∧ Y = pl (getP S id) ∧ Below u.heap.size u w') := Lib.hid (fun u k => by
    obtain ⟨tv, cv, gv, h, hF⟩ := h0
    exact rget_any (h.keep k) hW hB.2.2.1 id)
  have hg : g < w.heap.size := by obtain ⟨tv, cv, gv, h, hF⟩ := h0; exact h.row.lt
  obtain ⟨P, hP⟩ : ∃ P, P = getP S id := ⟨_, rfl⟩
  have HWi : Hid (∀ u Y, Y = pl P → Row u a n ks → Calls Tryz.prog 71 #[.agg Y.toArray, .slice a n cap] u fun e w' => ∃ Z, e = .returned (.tuple #[.agg (List.toArray Z), .int .i64 (woutE P ks)]) ∧ Z = pl (woutV P ks) ∧ Below u.heap.size u w') := Lib.hid (fun u Y hY hr => by
    subst hY
    exact (rwout_any P a n cap ks u hr).mono fun _ _ q => ⟨_, q.1, rfl, q.2⟩)
  have HLay : Hid (∀ i, atS S id = some i → woutE P ks = 0 → ∀ u Z, Z = pl (woutV P ks) → Below w.heap.size w u → Calls Tryz.prog 70 #[.pointer (some ⟨g, 0, none⟩), .int .i64 id, .agg (List.toArray Z)] u fun e w' => e = .returned (.tuple #[]) ∧ Chg RB w w' g F (cuS S id ks)) := Lib.hid (fun i ha he u Z hZ hb => by
    subst hZ
    have hee : cuE S id ks = 0 := by
      unfold cuE
      rw [show getB S id = true by unfold getB; rw [ha]; rfl, ← hP]
      simpa using he
    obtain ⟨i', ha', hrt⟩ := cu_at hee
    rw [← hP] at hrt
    refine (rlay8_any (h0.keep hb) hB id ha (woutV P ks) hrt).mono fun _ _ q => ⟨q.1, ?_⟩
    have h3 : cuS S id ks = layS S id (woutV P ks) := by unfold cuS; rw [if_pos hee, hP]
    rw [h3]
    exact q.2.of hb)
  have HB : Hid (Below w.heap.size w w) := Lib.hid (Below.refl _ _)
  have HP := Lib.hid hP
  cases ha : atS S id with
  | none =>
    have e3 : getB S id = false := by unfold getB; rw [ha]; rfl
    have e1 : Hid (cuE S id ks = 4) := Lib.hid (by unfold cuE; rw [e3]; rfl)
    have e2 : Hid (cuS S id ks = S) := Lib.hid (by unfold cuS; rw [e1.out]; rfl)
    rw [e3] at HGet
    clear e3 ha hP row h0 hW hB
    go_enter Tryz.func36, Tryz.ntmps36
    go_wp2_with fail
    refine (HGet.out _ HB.out).mono ?_
    rintro e w1 ⟨Y, rfl, hY, b1⟩
    have HPX : Hid (PXs Y) := Lib.hid (by rw [hY]; exact px8 _)
    replace HB := Lib.hid (bthen HB.out b1)
    clear hY b1
    have KA := Lib.hid (Blk.new w1 43 Z24.toArray)
    have HTA : Hid ((w1.alloc (.cells Z24.toArray 43)).there w1.heap.size 0 Y.toArray.size) := Lib.hid (blk_there KA.out (by rw [List.size_toArray, HPX.out.1]; exact Nat.le_refl 24))
    have HBA : Hid (Below w1.heap.size w1 ((w1.alloc (.cells Z24.toArray 43)).setCells w1.heap.size 0 Y)) := Lib.hid (below_setCells Y (alloc_below _ _) (Nat.le_refl _))
    have LA : Hid (Blk ((w1.alloc (.cells Z24.toArray 43)).setCells w1.heap.size 0 Y) w1.heap.size 43 Y.toArray) := Lib.hid (by
      have := blk_setCells Y (o := 0) KA.out (by rw [HPX.out.1]; exact Nat.le_refl 24)
      rwa [splice_all (by rw [HPX.out.1]; rfl)] at this)
    go_upto_region 2 with (refine wpList_store_mid rfl 43 (.tmp 7) (.tmp 15) rfl w1.heap.size 0 Y.toArray rfl rfl HTA.out HPX.out.2.2.1 HPX.out.2.2.2 ?_)
    refine fin (fun W => Below w.heap.size w W) (bthen HB.out HBA.out) ?_
    rintro W hb
    have HBW := Lib.hid hb
    clear hb
    go_wp2
    go_ret
    exact ⟨by rw [e1.out]; rfl, by rw [e2.out]; exact Chg.still HRB.out HBW.out⟩
  | some i =>
    have e3 : getB S id = true := by unfold getB; rw [ha]; rfl
    have HE : Hid (cuE S id ks = woutE P ks) := Lib.hid (by unfold cuE; rw [e3, hP]; rfl)
    have HNo : Hid (woutE P ks ≠ 0 → cuS S id ks = S) := Lib.hid (fun c => by unfold cuS; rw [HE.out, if_neg c])
    have HAt := Lib.hid ha
    rw [e3] at HGet
    clear e3 ha hP row h0 hW hB
    go_enter Tryz.func36, Tryz.ntmps36
    go_wp2_with fail
    refine (HGet.out _ HB.out).mono ?_
    rintro e w1 ⟨Y, rfl, hY, b1⟩
    have HPX : Hid (PXs Y) := Lib.hid (by rw [hY]; exact px8 _)
    have HY : Hid (Y = pl P) := Lib.hid (by rw [hY, HP.out])
    replace HB := Lib.hid (bthen HB.out b1)
    clear hY b1
    have KA := Lib.hid (Blk.new w1 43 Z24.toArray)
    have HTA : Hid ((w1.alloc (.cells Z24.toArray 43)).there w1.heap.size 0 Y.toArray.size) := Lib.hid (blk_there KA.out (by rw [List.size_toArray, HPX.out.1]; exact Nat.le_refl 24))
    have HBA : Hid (Below w1.heap.size w1 ((w1.alloc (.cells Z24.toArray 43)).setCells w1.heap.size 0 Y)) := Lib.hid (below_setCells Y (alloc_below _ _) (Nat.le_refl _))
    have LA : Hid (Blk ((w1.alloc (.cells Z24.toArray 43)).setCells w1.heap.size 0 Y) w1.heap.size 43 Y.toArray) := Lib.hid (by
      have := blk_setCells Y (o := 0) KA.out (by rw [HPX.out.1]; exact Nat.le_refl 24)
      rwa [splice_all (by rw [HPX.out.1]; rfl)] at this)
    go_upto_region 2 with (refine wpList_store_mid rfl 43 (.tmp 7) (.tmp 15) rfl w1.heap.size 0 Y.toArray rfl rfl HTA.out HPX.out.2.2.1 HPX.out.2.2.2 ?_)
    refine fin (fun W => Blk W w1.heap.size 43 Y.toArray ∧ Below w.heap.size w W) ⟨LA.out, bthen HB.out HBA.out⟩ ?_
    obtain ⟨g9, hg9⟩ : ∃ g9, g9 = w1.heap.size := ⟨_, rfl⟩
    rw [← hg9]
    clear KA HTA HBA LA HB hg9
    rintro W ⟨k9, hb⟩
    have K9 := Lib.hid k9
    have HB := Lib.hid hb
    have hl9 := k9.lt
    clear k9 hb
    go_wp2_with (refine wpList_load_mid rfl 43 (.tmp 7) rfl g9 0 rfl Y _ (blk_whole K9.out) Tryz.underlying43 rfl HPX.out.2.1 ?_)
    refine (HWi.out _ Y HY.out (row_keep HRow.out HB.out)).mono ?_
    rintro e w3 ⟨Z, rfl, hZ, b3⟩
    have HZX : Hid (PXs Z) := Lib.hid (by rw [hZ]; exact px8 _)
    have HZ := Lib.hid hZ
    replace HB := Lib.hid (bthen HB.out b3)
    clear hZ b3 K9 hl9 
    have KA := Lib.hid (Blk.new w3 43 Z24.toArray)
    have HTA : Hid ((w3.alloc (.cells Z24.toArray 43)).there w3.heap.size 0 Z.toArray.size) := Lib.hid (blk_there KA.out (by rw [List.size_toArray, HZX.out.1]; exact Nat.le_refl 24))
    have HBA : Hid (Below w3.heap.size w3 ((w3.alloc (.cells Z24.toArray 43)).setCells w3.heap.size 0 Z)) := Lib.hid (below_setCells Z (alloc_below _ _) (Nat.le_refl _))
    have LA : Hid (Blk ((w3.alloc (.cells Z24.toArray 43)).setCells w3.heap.size 0 Z) w3.heap.size 43 Z.toArray) := Lib.hid (by
      have := blk_setCells Z (o := 0) KA.out (by rw [HZX.out.1]; exact Nat.le_refl 24)
      rwa [splice_all (by rw [HZX.out.1]; rfl)] at this)
    go_upto_region 5 with (refine wpList_store_mid rfl 43 (.tmp 9) (.tmp 23) rfl w3.heap.size 0 Z.toArray rfl rfl HTA.out HZX.out.2.2.1 HZX.out.2.2.2 ?_)
    refine fin (fun W => Blk W w3.heap.size 43 Z.toArray ∧ Below w.heap.size w W) ⟨LA.out, bthen HB.out HBA.out⟩ ?_
    obtain ⟨gz, hgz⟩ : ∃ gz, gz = w3.heap.size := ⟨_, rfl⟩
    rw [← hgz]
    clear KA HTA HBA LA HB hgz
    rintro W ⟨kz, hb⟩
    have KZ := Lib.hid kz
    have HB := Lib.hid hb
    have hlz := kz.lt
    clear kz hb
    obtain ⟨we, hwe⟩ : ∃ we, we = woutE P ks := ⟨_, rfl⟩
    rw [← hwe] at HE HNo HLay ⊢
    clear hwe
    by_cases hz : we = 0
    · subst hz
      have HLay2 := Lib.hid (HLay.out i HAt.out rfl)
      clear HLay HNo
      go_wp2_with (refine wpList_load_mid rfl 43 (.tmp 9) rfl gz 0 rfl Z _ (blk_whole KZ.out) Tryz.underlying43 rfl HZX.out.2.1 ?_)
      refine (HLay2.out _ Z HZ.out HB.out).mono ?_
      rintro e w5 ⟨rfl, ch⟩
      have HCh := Lib.hid ch
      clear ch
      go_wp2
      go_ret
      exact ⟨by rw [HE.out]; rfl, HCh.out⟩
    · have hz' : (we == 0) = false := by simpa using hz
      have HNo2 := Lib.hid (HNo.out hz)
      clear hz
      go_wp2
      go_ret
      exact ⟨by rw [HE.out]; rfl, by rw [HNo2.out]; exact Chg.still HRB.out HB.out⟩

end Go.Proofs.YtkondkajpmafkaaGreat
