/-
  The landed store: what remake, Put and Cut answer.
-/
import Derived.Test.YtcpgkkphibhdfaaGreatMLsf
namespace Go.Proofs.YtcpgkkphibhdfaaGreat
open Go.RowKit

set_option maxHeartbeats 4000000 in
set_option maxRecDepth 100000 in
theorem lremake_any {w : World} {g : Nat} {F : Nat → Prop} {S : St} (h0 : LSB w g F S) (hW : WS S) (hB : Bd S 1000) (id : Int) (Fn : Nat) (cap : Array Value) (E : Int) (V : PT) (hE : Enters Fn)
    (hof : ∀ u, Below w.heap.size w u → Calls Tryz.prog Fn (#[.agg (pl (getP S id)).toArray] ++ cap) u fun e w' => ∃ Z, e = .returned (.tuple #[.agg (List.toArray Z), .int .i64 E]) ∧ Z = pl V ∧ Below u.heap.size u w') (hr : getB S id = true → E = 0 → rightT V = true) :
    Calls Tryz.prog 52 #[.pointer (some ⟨g, 0, none⟩), .int .i64 id, .func (.func Fn) #[] cap] w fun e w' => e = .returned (.int .i64 (if getB S id then E else 4)) ∧ Chg LSB w w' g F (if getB S id = true ∧ E = 0 then layS S id V else S) := by
  have HGet : Hid (Calls Tryz.prog 12 #[.pointer (some ⟨g, 0, none⟩), .int .i64 id] w fun e w' => ∃ Y, e = .returned (.tuple #[.agg (List.toArray Y), .bool (getB S id)]) ∧ Y = pl (getP S id) ∧ Below w.heap.size w w') := Lib.hid (lget_any h0 hW hB id)
  have hg := h0.inH
  have H0 := Lib.hid h0
  cases hgb : getB S id with
  | false =>
    rw [hgb] at HGet
    rw [if_neg (by simp), if_neg (by simp)]
    clear hgb h0 hof hr hE
    go_enter Tryz.func52, Tryz.ntmps52
    go_wp2_with fail
    refine HGet.out.mono ?_
    rintro e w1 ⟨Y, rfl, hY, b1⟩
    have HPX : Hid (PXs Y) := Lib.hid (by rw [hY]; exact pxs _)
    have HB := Lib.hid b1
    clear hY b1
    have KA := Lib.hid (Blk.new w1 44 Z24.toArray)
    have HTA : Hid ((w1.alloc (.cells Z24.toArray 44)).there w1.heap.size 0 Y.toArray.size) := Lib.hid (blk_there KA.out (by rw [List.size_toArray, HPX.out.1]; exact Nat.le_refl 24))
    have HBA : Hid (Below w1.heap.size w1 ((w1.alloc (.cells Z24.toArray 44)).setCells w1.heap.size 0 Y)) := Lib.hid (below_setCells Y (alloc_below _ _) (Nat.le_refl _))
    have LA : Hid (Blk ((w1.alloc (.cells Z24.toArray 44)).setCells w1.heap.size 0 Y) w1.heap.size 44 Y.toArray) := Lib.hid (by
      have := blk_setCells Y (o := 0) KA.out (by rw [HPX.out.1]; exact Nat.le_refl 24)
      rwa [splice_all (by rw [HPX.out.1]; rfl)] at this)
    go_upto_region 4 with (refine wpList_store_mid rfl 44 (.tmp 7) (.tmp 17) rfl w1.heap.size 0 Y.toArray rfl rfl HTA.out HPX.out.2.2.1 HPX.out.2.2.2 ?_)
    refine fin (fun W => Below w.heap.size w W) (bthen HB.out HBA.out) ?_
    rintro W hb
    have HBW := Lib.hid hb
    clear hb
    go_wp2
    go_ret
    exact ⟨rfl, LSB.still H0.out HBW.out⟩
  | true =>
    obtain ⟨i, ha⟩ : ∃ i, atS S id = some i := by unfold getB at hgb; exact Option.isSome_iff_exists.1 hgb
    rw [hgb] at HGet
    have HOf : Hid (∀ u Y, Y = pl (getP S id) → Below w.heap.size w u → Calls Tryz.prog Fn (#[.agg (List.toArray Y)] ++ cap) u fun e w' => ∃ Z, e = .returned (.tuple #[.agg (List.toArray Z), .int .i64 E]) ∧ Z = pl V ∧ Below u.heap.size u w') := Lib.hid (fun u Y hY q => by rw [hY]; exact hof u q)
    have HRp : Hid (E = 0 → ∀ u Z, Z = pl V → Below w.heap.size w u → Calls Tryz.prog 87 #[.pointer (some ⟨g, 0, none⟩), .int .i64 id, .agg (List.toArray Z)] u fun e w' => e = .returned (.tuple #[]) ∧ Chg LSB w w' g F (layS S id V)) := Lib.hid (fun he u Z hZ q => by
      rw [hZ]
      exact (lreplace_any (h0.keep q) hW hB id ha V (hr hgb he)).mono fun _ _ z => ⟨z.1, z.2.of q⟩)
    have hEE := hE
    unfold Enters at hEE
    rw [if_pos rfl]
    obtain ⟨S', hS'⟩ : ∃ S', S' = (if (true = true) ∧ E = 0 then layS S id V else S) := ⟨_, rfl⟩
    rw [← hS']
    have HSy : Hid (E = 0 → S' = layS S id V) := Lib.hid (fun c => by rw [hS', if_pos ⟨rfl, c⟩])
    have HSn : Hid (E ≠ 0 → S' = S) := Lib.hid (fun c => by rw [hS', if_neg (fun d => c d.2)])
    clear hgb h0 hof hr hE ha hW hB hS'
    go_enter Tryz.func52, Tryz.ntmps52
    go_wp2_with fail
    refine HGet.out.mono ?_
    rintro e w1 ⟨Y, rfl, hY, b1⟩
    have HPX : Hid (PXs Y) := Lib.hid (by rw [hY]; exact pxs _)
    have HY := Lib.hid hY
    have HB := Lib.hid b1
    clear hY b1
    have KA := Lib.hid (Blk.new w1 44 Z24.toArray)
    have HTA : Hid ((w1.alloc (.cells Z24.toArray 44)).there w1.heap.size 0 Y.toArray.size) := Lib.hid (blk_there KA.out (by rw [List.size_toArray, HPX.out.1]; exact Nat.le_refl 24))
    have HBA : Hid (Below w1.heap.size w1 ((w1.alloc (.cells Z24.toArray 44)).setCells w1.heap.size 0 Y)) := Lib.hid (below_setCells Y (alloc_below _ _) (Nat.le_refl _))
    have LA : Hid (Blk ((w1.alloc (.cells Z24.toArray 44)).setCells w1.heap.size 0 Y) w1.heap.size 44 Y.toArray) := Lib.hid (by
      have := blk_setCells Y (o := 0) KA.out (by rw [HPX.out.1]; exact Nat.le_refl 24)
      rwa [splice_all (by rw [HPX.out.1]; rfl)] at this)
    go_upto_region 4 with (refine wpList_store_mid rfl 44 (.tmp 7) (.tmp 17) rfl w1.heap.size 0 Y.toArray rfl rfl HTA.out HPX.out.2.2.1 HPX.out.2.2.2 ?_)
    refine fin (fun W => Blk W w1.heap.size 44 Y.toArray ∧ Below w.heap.size w W) ⟨LA.out, bthen HB.out HBA.out⟩ ?_
    obtain ⟨g9, hg9⟩ : ∃ g9, g9 = w1.heap.size := ⟨_, rfl⟩
    rw [← hg9]
    clear KA HTA HBA LA HB hg9 HGet
    rintro W ⟨k9, hb⟩
    have K9 := Lib.hid (blk_whole k9)
    have HB := Lib.hid hb
    have z9 := k9.lt
    have zg : g < W.heap.size := Nat.lt_of_lt_of_le hg hb.size
    clear k9 hb
    go_wp2_with (refine wpList_load_mid rfl 44 (.tmp 7) rfl g9 0 rfl Y _ K9.out Tryz.underlying44 rfl HPX.out.2.1 ?_)
    refine (HOf.out _ Y HY.out HB.out).mono ?_
    rintro e w2 ⟨Z, rfl, hZ, b2⟩
    have HPZ : Hid (PXs Z) := Lib.hid (by rw [hZ]; exact pxs _)
    have HZ := Lib.hid hZ
    replace HB := Lib.hid (bthen HB.out b2)
    clear hZ b2 hEE HOf K9 z9 zg
    have KA := Lib.hid (Blk.new w2 44 Z24.toArray)
    have HTA : Hid ((w2.alloc (.cells Z24.toArray 44)).there w2.heap.size 0 Z.toArray.size) := Lib.hid (blk_there KA.out (by rw [List.size_toArray, HPZ.out.1]; exact Nat.le_refl 24))
    have HBA : Hid (Below w2.heap.size w2 ((w2.alloc (.cells Z24.toArray 44)).setCells w2.heap.size 0 Z)) := Lib.hid (below_setCells Z (alloc_below _ _) (Nat.le_refl _))
    have LA : Hid (Blk ((w2.alloc (.cells Z24.toArray 44)).setCells w2.heap.size 0 Z) w2.heap.size 44 Z.toArray) := Lib.hid (by
      have := blk_setCells Z (o := 0) KA.out (by rw [HPZ.out.1]; exact Nat.le_refl 24)
      rwa [splice_all (by rw [HPZ.out.1]; rfl)] at this)
    go_upto_region 7 with (refine wpList_store_mid rfl 44 (.tmp 9) (.tmp 25) rfl w2.heap.size 0 Z.toArray rfl rfl HTA.out HPZ.out.2.2.1 HPZ.out.2.2.2 ?_)
    refine fin (fun W => Blk W w2.heap.size 44 Z.toArray ∧ Below w.heap.size w W) ⟨LA.out, bthen HB.out HBA.out⟩ ?_
    obtain ⟨g8, hg8⟩ : ∃ g8, g8 = w2.heap.size := ⟨_, rfl⟩
    rw [← hg8]
    clear KA HTA HBA LA HB hg8
    rintro W2 ⟨k8, hb⟩
    have K8 := Lib.hid (blk_whole k8)
    have HB := Lib.hid hb
    have z8 := k8.lt
    clear k8 hb
    by_cases he : E = 0
    · have eS := Lib.hid (HSy.out he)
      replace HRp := Lib.hid (HRp.out he)
      subst he
      go_wp2_with (refine wpList_load_mid rfl 44 (.tmp 9) rfl g8 0 rfl Z _ K8.out Tryz.underlying44 rfl HPZ.out.2.1 ?_)
      refine (HRp.out _ Z HZ.out HB.out).mono ?_
      rintro e w3 ⟨rfl, hc⟩
      have HC := Lib.hid hc
      clear hc
      go_wp2
      go_ret
      exact ⟨rfl, by rw [eS.out]; exact HC.out⟩
    · have eS := Lib.hid (HSn.out he)
      have hne : decide (E = 0) = false := decide_eq_false he
      go_wp2
      go_ret
      exact ⟨rfl, by rw [eS.out]; exact LSB.still H0.out HB.out⟩

set_option maxHeartbeats 2000000 in
set_option maxRecDepth 100000 in
theorem put1_any (P Q : PT) (g7 g8 : Nat) (a : Option Addr) (n cap : Nat) (ks : List Int) (w : World) (k7 : Blk w g7 44 (pl Q).toArray) (k8 : w.cell? ⟨g8, 0, none⟩ = some (.slice a n cap)) (row : Row w a n ks) :
    Calls Tryz.prog 53 (#[.agg (pl P).toArray] ++ #[.pointer (some ⟨g7, 0, none⟩), .pointer (some ⟨g8, 0, none⟩)]) w fun e w' => ∃ Z, e = .returned (.tuple #[.agg (List.toArray Z), .int .i64 (withE P Q ks)]) ∧ Z = pl (withV P Q ks) ∧ Below w.heap.size w w' := by
  have HWi : Hid (∀ u, Below w.heap.size w u → Calls Tryz.prog 54 #[.agg (pl P).toArray, .agg (pl Q).toArray, .slice a n cap] u fun e w' => e = .returned (.tuple #[.agg (pl (withV P Q ks)).toArray, .int .i64 (withE P Q ks)]) ∧ Below u.heap.size u w') := Lib.hid (fun u q => pwith_any P Q a n cap ks u (row_keep row q))
  have HPP := Lib.hid (pxs P)
  have HPQ := Lib.hid (pxs Q)
  have HPZ := Lib.hid (pxs (withV P Q ks))
  obtain ⟨E, hE⟩ : ∃ E, E = withE P Q ks := ⟨_, rfl⟩
  obtain ⟨Xp, hXp⟩ : ∃ Xp, Xp = pl P := ⟨_, rfl⟩
  obtain ⟨Xq, hXq⟩ : ∃ Xq, Xq = pl Q := ⟨_, rfl⟩
  obtain ⟨Z, hZ⟩ : ∃ Z, Z = pl (withV P Q ks) := ⟨_, rfl⟩
  rw [← hE, ← hXp, ← hXq, ← hZ] at HWi
  rw [← hXp] at HPP ⊢
  rw [← hXq] at HPQ k7
  rw [← hZ] at HPZ ⊢
  rw [← hE]
  have z7 := k7.lt
  have z8 : g8 < w.heap.size := World.block_lt_of_cell? _ _ k8
  have K7 := Lib.hid k7
  have KP := Lib.hid (Blk.new w 44 Xp.toArray)
  have HB0 : Hid (Below w.heap.size w (w.alloc (.cells Xp.toArray 44))) := Lib.hid (alloc_below _ _)
  have KR : Hid (Blk ((w.alloc (.cells Xp.toArray 44)).alloc (.cells Z24.toArray 44)) (w.heap.size + 1) 44 Z24.toArray) := Lib.hid (by
    have := Blk.new (w.alloc (.cells Xp.toArray 44)) 44 Z24.toArray
    rwa [show (w.alloc (.cells Xp.toArray 44)).heap.size = w.heap.size + 1 by simp] at this)
  have HB1 : Hid (Below (w.alloc (.cells Xp.toArray 44)).heap.size (w.alloc (.cells Xp.toArray 44)) ((w.alloc (.cells Xp.toArray 44)).alloc (.cells Z24.toArray 44))) := Lib.hid (alloc_below _ _)
  have KP2 := Lib.hid (Blk.keep KP.out HB1.out)
  have HB2 := Lib.hid (bthen HB0.out HB1.out)
  have K72 := Lib.hid (Blk.keep K7.out HB2.out)
  have c8 := cell_keep k8 HB2.out
  clear hE hXp hXq hZ row k7 k8 KP HB0 HB1 K7
  go_enter Tryz.func53, Tryz.ntmps53
  go_upto_region 1 with fail
  refine fin (fun W => Blk W w.heap.size 44 Xp.toArray ∧ Blk W (w.heap.size + 1) 44 Z24.toArray ∧ Blk W g7 44 Xq.toArray ∧ W.cell? ⟨g8, 0, none⟩ = some (.slice a n cap) ∧ Below w.heap.size w W) ⟨KP2.out, KR.out, K72.out, c8, HB2.out⟩ ?_
  clear KP2 KR K72 c8 HB2
  rintro W ⟨kp, kr, k7, c8, hb⟩
  have KP := Lib.hid (blk_whole kp)
  have KR := Lib.hid kr
  have K7 := Lib.hid (blk_whole k7)
  have HB := Lib.hid hb
  have z1 := kp.lt
  have z2 := k7.lt
  have z3 : g8 < W.heap.size := World.block_lt_of_cell? _ _ c8
  clear kp kr k7 hb
  go_wp2_with (first | refine wpList_load_mid rfl 44 (.tmp 3) rfl w.heap.size 0 rfl Xp _ KP.out Tryz.underlying44 rfl HPP.out.2.1 ?_ | refine wpList_load_mid rfl 44 (.tmp 1) rfl g7 0 rfl Xq _ K7.out Tryz.underlying44 rfl HPQ.out.2.1 ?_)
  refine (HWi.out _ HB.out).mono ?_
  rintro e w2 ⟨rfl, b2⟩
  replace KR := Lib.hid (Blk.keep KR.out b2)
  replace HB := Lib.hid (bthen HB.out b2)
  have zr := KR.out.lt
  have HT4 : Hid (w2.there (w.heap.size + 1) 0 Z.toArray.size) := Lib.hid (blk_there KR.out (by rw [List.size_toArray, HPZ.out.1]; exact Nat.le_refl 24))
  have L4 : Hid (Blk (w2.setCells (w.heap.size + 1) 0 Z) (w.heap.size + 1) 44 Z.toArray) := Lib.hid (blk_over KR.out (by rw [HPZ.out.1]; rfl))
  clear b2 c8
  go_wp2_with (first | refine wpList_store_mid rfl 44 (.tmp 4) (.tmp 10) rfl (w.heap.size + 1) 0 Z.toArray rfl rfl HT4.out HPZ.out.2.2.1 HPZ.out.2.2.2 ?_)
  refine fin (fun W => Blk W (w.heap.size + 1) 44 Z.toArray ∧ Below w.heap.size w W) ⟨L4.out, below_setCells _ HB.out (by omega)⟩ ?_
  rintro W2 ⟨kr, hb⟩
  have hl := run_loadVar_mid W2 (w.heap.size + 1) 0 44 Z _ (blk_whole kr) Tryz.underlying44 rfl HPZ.out.2.1
  try simp only [Go.Act.put, List.setIfInBounds_toArray, List.set_cons_zero, List.set_cons_succ]
  exact bodyPost_ret (v := .tuple #[.agg Z.toArray, .int .i64 E]) (results_cell2 Tryz.results53 rfl rfl hl) rfl ⟨Z, rfl, rfl, hb⟩

set_option maxHeartbeats 2000000 in
set_option maxRecDepth 100000 in
theorem cut1_any (P : PT) (g8 : Nat) (a : Option Addr) (n cap : Nat) (ks : List Int) (w : World) (k8 : w.cell? ⟨g8, 0, none⟩ = some (.slice a n cap)) (row : Row w a n ks) :
    Calls Tryz.prog 55 (#[.agg (pl P).toArray] ++ #[.pointer (some ⟨g8, 0, none⟩)]) w fun e w' => ∃ Z, e = .returned (.tuple #[.agg (List.toArray Z), .int .i64 (woutE P ks)]) ∧ Z = pl (woutV P ks) ∧ Below w.heap.size w w' := by
  have HWi : Hid (∀ u, Below w.heap.size w u → Calls Tryz.prog 56 #[.agg (pl P).toArray, .slice a n cap] u fun e w' => e = .returned (.tuple #[.agg (pl (woutV P ks)).toArray, .int .i64 (woutE P ks)]) ∧ Below u.heap.size u w') := Lib.hid (fun u q => pwoutT P a n cap ks u (row_keep row q))
  have HPP := Lib.hid (pxs P)
  have HPZ := Lib.hid (pxs (woutV P ks))
  obtain ⟨E, hE⟩ : ∃ E, E = woutE P ks := ⟨_, rfl⟩
  obtain ⟨Xp, hXp⟩ : ∃ Xp, Xp = pl P := ⟨_, rfl⟩
  obtain ⟨Z, hZ⟩ : ∃ Z, Z = pl (woutV P ks) := ⟨_, rfl⟩
  rw [← hE, ← hXp, ← hZ] at HWi
  rw [← hXp] at HPP ⊢
  rw [← hZ] at HPZ ⊢
  rw [← hE]
  have z8 : g8 < w.heap.size := World.block_lt_of_cell? _ _ k8
  have KP := Lib.hid (Blk.new w 44 Xp.toArray)
  have HB0 : Hid (Below w.heap.size w (w.alloc (.cells Xp.toArray 44))) := Lib.hid (alloc_below _ _)
  have KR : Hid (Blk ((w.alloc (.cells Xp.toArray 44)).alloc (.cells Z24.toArray 44)) (w.heap.size + 1) 44 Z24.toArray) := Lib.hid (by
    have := Blk.new (w.alloc (.cells Xp.toArray 44)) 44 Z24.toArray
    rwa [show (w.alloc (.cells Xp.toArray 44)).heap.size = w.heap.size + 1 by simp] at this)
  have HB1 : Hid (Below (w.alloc (.cells Xp.toArray 44)).heap.size (w.alloc (.cells Xp.toArray 44)) ((w.alloc (.cells Xp.toArray 44)).alloc (.cells Z24.toArray 44))) := Lib.hid (alloc_below _ _)
  have KP2 := Lib.hid (Blk.keep KP.out HB1.out)
  have HB2 := Lib.hid (bthen HB0.out HB1.out)
  have c8 := cell_keep k8 HB2.out
  clear hE hXp hZ row k8 KP HB0 HB1
  go_enter Tryz.func55, Tryz.ntmps55
  go_upto_region 1 with fail
  refine fin (fun W => Blk W w.heap.size 44 Xp.toArray ∧ Blk W (w.heap.size + 1) 44 Z24.toArray ∧ W.cell? ⟨g8, 0, none⟩ = some (.slice a n cap) ∧ Below w.heap.size w W) ⟨KP2.out, KR.out, c8, HB2.out⟩ ?_
  clear KP2 KR c8 HB2
  rintro W ⟨kp, kr, c8, hb⟩
  have KP := Lib.hid (blk_whole kp)
  have KR := Lib.hid kr
  have HB := Lib.hid hb
  have z1 := kp.lt
  have z3 : g8 < W.heap.size := World.block_lt_of_cell? _ _ c8
  clear kp kr hb
  go_wp2_with (first | refine wpList_load_mid rfl 44 (.tmp 2) rfl w.heap.size 0 rfl Xp _ KP.out Tryz.underlying44 rfl HPP.out.2.1 ?_)
  refine (HWi.out _ HB.out).mono ?_
  rintro e w2 ⟨rfl, b2⟩
  replace KR := Lib.hid (Blk.keep KR.out b2)
  replace HB := Lib.hid (bthen HB.out b2)
  have zr := KR.out.lt
  have HT4 : Hid (w2.there (w.heap.size + 1) 0 Z.toArray.size) := Lib.hid (blk_there KR.out (by rw [List.size_toArray, HPZ.out.1]; exact Nat.le_refl 24))
  have L4 : Hid (Blk (w2.setCells (w.heap.size + 1) 0 Z) (w.heap.size + 1) 44 Z.toArray) := Lib.hid (blk_over KR.out (by rw [HPZ.out.1]; rfl))
  clear b2 c8
  go_wp2_with (first | refine wpList_store_mid rfl 44 (.tmp 3) (.tmp 8) rfl (w.heap.size + 1) 0 Z.toArray rfl rfl HT4.out HPZ.out.2.2.1 HPZ.out.2.2.2 ?_)
  refine fin (fun W => Blk W (w.heap.size + 1) 44 Z.toArray ∧ Below w.heap.size w W) ⟨L4.out, below_setCells _ HB.out (by omega)⟩ ?_
  rintro W2 ⟨kr, hb⟩
  have hl := run_loadVar_mid W2 (w.heap.size + 1) 0 44 Z _ (blk_whole kr) Tryz.underlying44 rfl HPZ.out.2.1
  try simp only [Go.Act.put, List.setIfInBounds_toArray, List.set_cons_zero, List.set_cons_succ]
  exact bodyPost_ret (v := .tuple #[.agg Z.toArray, .int .i64 E]) (results_cell2 Tryz.results55 rfl rfl hl) rfl ⟨Z, rfl, rfl, hb⟩

theorem enters_put1 : Enters 53 := fun _ _ => by kernel_rfl
theorem enters_cut1 : Enters 55 := fun _ _ => by kernel_rfl
end Go.Proofs.YtcpgkkphibhdfaaGreat
