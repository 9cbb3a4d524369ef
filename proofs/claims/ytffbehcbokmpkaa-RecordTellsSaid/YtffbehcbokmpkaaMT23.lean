/-
  What the reference's Of of layer 12 answers.
-/
import Derived.Test.YtffbehcbokmpkaaMT22
namespace Go.Proofs.Ytffbehcbokmpkaa
open Go.RowKit

set_option maxHeartbeats 16000000 in
set_option maxRecDepth 100000 in
theorem gof12_any (x : Int) (P : PT) (M : Nat → Int) (s : Bool) (w : World) :
    Calls Try.prog 7 #[.int .i64 x, .agg (pl P).toArray, .agg (lM12 M).toArray, .bool s] w fun e w' => e = .returned (.tuple #[.agg (cRc (ovR x M P s)).toArray, .bool (obR M P s), .int .i64 (oeR M P s)]) ∧ Below w.heap.size w w' := by
  have b1 : Below w.heap.size w (w.alloc (.cells (pl P).toArray 32)) := alloc_below _ _
  have s1 : (w.alloc (.cells (pl P).toArray 32)).heap.size = w.heap.size + 1 := by simp
  have s2 : ((w.alloc (.cells (pl P).toArray 32)).alloc (.cells (lM12 M).toArray 26)).heap.size = w.heap.size + 2 := by simp
  have k4 := ((Blk.new w 32 (pl P).toArray).alloc (.cells (lM12 M).toArray 26)).alloc (.cells (cRc zRc).toArray 40)
  have k5 := (Blk.new (w.alloc (.cells (pl P).toArray 32)) 26 (lM12 M).toArray).alloc (.cells (cRc zRc).toArray 40)
  have k6 := Blk.new ((w.alloc (.cells (pl P).toArray 32)).alloc (.cells (lM12 M).toArray 26)) 40 (cRc zRc).toArray
  rw [s1] at k5
  rw [s2] at k6
  have HW0 := Lib.hid (And.intro k4 (And.intro k5 (And.intro k6 (balloc (balloc b1 (.cells (lM12 M).toArray 26)) (.cells (cRc zRc).toArray 40)))))
  have HC4 : Hid (∀ W g, Blk W g 32 (pl P).toArray → W.cell? ⟨g, 0, none⟩ = some (.int .i64 P.1) ∧ W.cell? ⟨g, 13, none⟩ = some (.int .i64 P.2.2.1) ∧ W.cell? ⟨g, 20, none⟩ = some (.int .i64 P.2.2.2.2.1) ∧ W.cell? ⟨g, 21, none⟩ = some (.int .i64 P.2.2.2.2.2.1) ∧ W.cell? ⟨g, 22, none⟩ = some (.bool P.2.2.2.2.2.2.1) ∧ W.cell? ⟨g, 23, none⟩ = some (.int .i64 P.2.2.2.2.2.2.2) ∧ W.rangeAt g 14 (lB6 P.2.2.2.1)) := Lib.hid (fun W g k => ⟨k.cell 0, k.cell 13, k.cell 20, k.cell 21, k.cell 22, k.cell 23, blk_range k 14 6⟩)
  have HDr : Hid (∀ W, Calls Try.prog 20 #[.agg (pl P).toArray] W fun e w' => e = .returned (.bool (drawnT P)) ∧ Below W.heap.size W w') := Lib.hid (fun W => rdrawn_any _ _ _ _ _ _ _ _ W)
  have HHs : Hid (∀ W, Calls Try.prog 22 #[.int .i64 P.1, .int .i64 3] W fun e w' => e = .returned (.bool (hasB P.1 3)) ∧ W = w') := Lib.hid (rhas_any P.1 3)
  have HCa : Hid (∀ W, Calls Try.prog 21 #[.agg (lM12 M).toArray, .agg (lB6 P.2.2.2.1).toArray] W fun e w' => e = .returned (.tuple #[.agg #[.int .i64 (carV M P.2.2.2.1 0), .int .i64 (carV M P.2.2.2.1 1), .int .i64 (carV M P.2.2.2.1 2), .int .i64 (carV M P.2.2.2.1 3), .int .i64 (carV M P.2.2.2.1 4), .int .i64 (carV M P.2.2.2.1 5)], .int .i64 (carE M P.2.2.2.1)]) ∧ Below W.heap.size W w') := Lib.hid (rcarry_l M P.2.2.2.1)
  have HSp : Hid ((Try.prog.info? 32).map (·.size) = some (pl P).length) := Lib.hid (pl_size P)
  have HSm : Hid ((Try.prog.info? 26).map (·.size) = some (lM12 M).length) := Lib.hid (by kernel_rfl)
  have HSb : Hid ((Try.prog.info? 30).map (·.size) = some (lB6 P.2.2.2.1).length) := Lib.hid (by kernel_rfl)
  have HNo : Hid ((s = false ∨ drawnT P = false) → ovR x M P s = zRc ∧ obR M P s = false ∧ oeR M P s = 0) := Lib.hid (fun h => by
    have e : (s && drawnT P) = false := by rcases h with h | h <;> simp [h]
    unfold ovR obR oeR
    rw [e]
    simp)
  have HEr : Hid (s = true → drawnT P = true → carE M P.2.2.2.1 ≠ 0 → ovR x M P s = zRc ∧ obR M P s = false ∧ oeR M P s = carE M P.2.2.2.1) := Lib.hid (fun h1 h2 h3 => by
    unfold ovR obR oeR
    simp [h1, h2, h3])
  have HYe : Hid (s = true → drawnT P = true → carE M P.2.2.2.1 = 0 → ovR x M P s = recT x P M ∧ obR M P s = true ∧ oeR M P s = 0) := Lib.hid (fun h1 h2 h3 => by
    unfold ovR obR oeR
    simp [h1, h2, h3])
  have HRec : Hid (cRc (recT x P M) = [.int .i64 x, .int .i64 P.2.2.1, .int .i64 P.2.2.2.2.1, .int .i64 P.2.2.2.2.2.1, .bool P.2.2.2.2.2.2.1, .int .i64 (if hasB P.1 3 then P.2.2.2.2.2.2.2 else 1), .int .i64 (carV M P.2.2.2.1 0), .int .i64 (carV M P.2.2.2.1 1), .int .i64 (carV M P.2.2.2.1 2), .int .i64 (carV M P.2.2.2.1 3), .int .i64 (carV M P.2.2.2.1 4), .int .i64 (carV M P.2.2.2.1 5)]) := Lib.hid rfl
  obtain ⟨ov, hov⟩ : ∃ ov, ov = ovR x M P s := ⟨_, rfl⟩
  obtain ⟨ob, hob⟩ : ∃ ob, ob = obR M P s := ⟨_, rfl⟩
  obtain ⟨oe, hoe⟩ : ∃ oe, oe = oeR M P s := ⟨_, rfl⟩
  rw [← hov, ← hob, ← hoe] at HNo HEr HYe ⊢
  obtain ⟨XP, hXP⟩ : ∃ XP, XP = pl P := ⟨_, rfl⟩
  obtain ⟨XM, hXM⟩ : ∃ XM, XM = lM12 M := ⟨_, rfl⟩
  obtain ⟨XB, hXB⟩ : ∃ XB, XB = lB6 P.2.2.2.1 := ⟨_, rfl⟩
  obtain ⟨dr, hdr⟩ : ∃ dr, dr = drawnT P := ⟨_, rfl⟩
  obtain ⟨ce, hce⟩ : ∃ ce, ce = carE M P.2.2.2.1 := ⟨_, rfl⟩
  obtain ⟨p0, hp0⟩ : ∃ p0, p0 = P.1 := ⟨_, rfl⟩
  obtain ⟨p1, hp1⟩ : ∃ p1, p1 = P.2.2.1 := ⟨_, rfl⟩
  obtain ⟨p2, hp2⟩ : ∃ p2, p2 = P.2.2.2.2.1 := ⟨_, rfl⟩
  obtain ⟨p3, hp3⟩ : ∃ p3, p3 = P.2.2.2.2.2.1 := ⟨_, rfl⟩
  obtain ⟨p4, hp4⟩ : ∃ p4, p4 = P.2.2.2.2.2.2.1 := ⟨_, rfl⟩
  obtain ⟨p5, hp5⟩ : ∃ p5, p5 = P.2.2.2.2.2.2.2 := ⟨_, rfl⟩
  obtain ⟨q0, hq0⟩ : ∃ q0, q0 = carV M P.2.2.2.1 0 := ⟨_, rfl⟩
  obtain ⟨q1, hq1⟩ : ∃ q1, q1 = carV M P.2.2.2.1 1 := ⟨_, rfl⟩
  obtain ⟨q2, hq2⟩ : ∃ q2, q2 = carV M P.2.2.2.1 2 := ⟨_, rfl⟩
  obtain ⟨q3, hq3⟩ : ∃ q3, q3 = carV M P.2.2.2.1 3 := ⟨_, rfl⟩
  obtain ⟨q4, hq4⟩ : ∃ q4, q4 = carV M P.2.2.2.1 4 := ⟨_, rfl⟩
  obtain ⟨q5, hq5⟩ : ∃ q5, q5 = carV M P.2.2.2.1 5 := ⟨_, rfl⟩
  rw [← hXP] at HW0 HC4 HDr HSp ⊢
  rw [← hXM] at HW0 HCa HSm ⊢
  rw [← hXB] at HC4 HCa HSb
  rw [← hdr] at HDr HNo HEr HYe
  rw [← hce] at HCa HEr HYe
  rw [← hp0] at HC4 HHs HRec
  rw [← hp1] at HC4 HRec
  rw [← hp2] at HC4 HRec
  rw [← hp3] at HC4 HRec
  rw [← hp4] at HC4 HRec
  rw [← hp5] at HC4 HRec
  rw [← hq0, ← hq1, ← hq2, ← hq3, ← hq4, ← hq5] at HRec HCa
  obtain ⟨hs3, hhs3⟩ : ∃ hs3, hs3 = hasB p0 3 := ⟨_, rfl⟩
  rw [← hhs3] at HRec HHs
  clear hXP hXM hXB hdr hce hp0 hp1 hp2 hp3 hp4 hp5 hq0 hq1 hq2 hq3 hq4 hq5 hov hob hoe k4 k5 k6 b1 s1 s2 hhs3
  go_enter Try.func7, Try.ntmps7
  go_upto_region 1 with fail
  refine fin (fun W => Blk W w.heap.size 32 XP.toArray ∧ Blk W (w.heap.size + 1) 26 XM.toArray ∧ Blk W (w.heap.size + 2) 40 (cRc zRc).toArray ∧ Below w.heap.size w W) HW0.out ?_
  clear HW0
  rintro W0 ⟨k4, k5, k6, hb⟩
  have K4 := Lib.hid k4
  have K5 := Lib.hid k5
  have K6 := Lib.hid k6
  have HB := Lib.hid hb
  clear k4 k5 k6 hb
  go_wp2_with (refine wpList_load_mid rfl 32 (.tmp 5) rfl w.heap.size 0 rfl XP _ (blk_whole K4.out) Try.underlying32 rfl HSp.out ?_)
  refine (HDr.out _).mono ?_
  rintro e w1 ⟨rfl, hb⟩
  have K4b := Lib.hid (K4.out.keep hb)
  have K5b := Lib.hid (K5.out.keep hb)
  have K6b := Lib.hid (K6.out.keep hb)
  have HBb := Lib.hid (bthen HB.out hb)
  clear hb K4 K5 K6 HB HDr
  cases dr
  · have HV := Lib.hid (HNo.out (Or.inr rfl))
    have HTh : Hid (w1.there (w.heap.size + 2) 0 (cRc zRc).toArray.size) := Lib.hid (blk_there K6b.out (Nat.le_refl 12))
    have HSz' : Hid ((Try.prog.info? 40).map (·.size) = some (cRc zRc).toArray.size) := Lib.hid (rf_size zRc)
    have HOz := Lib.hid (rc_all zRc)
    have HFi : Hid (Blk (w1.setCells (w.heap.size + 2) 0 (cRc zRc)) (w.heap.size + 2) 40 (cRc zRc).toArray ∧ Below w.heap.size w (w1.setCells (w.heap.size + 2) 0 (cRc zRc))) := Lib.hid (by
      have q := blk_setCells (cRc zRc) (o := 0) K6b.out (Nat.le_refl 12)
      rw [splice_rc] at q
      exact ⟨q, below_setCells _ HBb.out (by omega)⟩)
    go_wp2_with (refine wpList_store_mid rfl 40 (.tmp 8) (.tmp 24) rfl (w.heap.size + 2) 0 (cRc zRc).toArray rfl rfl HTh.out HSz'.out HOz.out ?_)
    refine fin (fun W => Blk W (w.heap.size + 2) 40 (cRc zRc).toArray ∧ Below w.heap.size w W) HFi.out ?_
    rintro Wz ⟨kr, hbz⟩
    have hl := run_loadVar_mid Wz (w.heap.size + 2) 0 40 (cRc zRc) _ (blk_whole kr) Try.underlying40 rfl (rf_size zRc)
    (try simp only [Act.put, List.setIfInBounds_toArray, List.set_cons_zero, List.set_cons_succ])
    exact bodyPost_ret (v := .tuple #[.agg (cRc zRc).toArray, .bool false, .int .i64 0]) (results_cell3 Try.results7 rfl rfl rfl hl) rfl ⟨by rw [HV.out.1, HV.out.2.1, HV.out.2.2], hbz⟩
  · cases s
    · have HV := Lib.hid (HNo.out (Or.inl rfl))
      have HTh : Hid (w1.there (w.heap.size + 2) 0 (cRc zRc).toArray.size) := Lib.hid (blk_there K6b.out (Nat.le_refl 12))
      have HSz' : Hid ((Try.prog.info? 40).map (·.size) = some (cRc zRc).toArray.size) := Lib.hid (rf_size zRc)
      have HOz := Lib.hid (rc_all zRc)
      have HFi : Hid (Blk (w1.setCells (w.heap.size + 2) 0 (cRc zRc)) (w.heap.size + 2) 40 (cRc zRc).toArray ∧ Below w.heap.size w (w1.setCells (w.heap.size + 2) 0 (cRc zRc))) := Lib.hid (by
        have q := blk_setCells (cRc zRc) (o := 0) K6b.out (Nat.le_refl 12)
        rw [splice_rc] at q
        exact ⟨q, below_setCells _ HBb.out (by omega)⟩)
      go_wp2_with (refine wpList_store_mid rfl 40 (.tmp 8) (.tmp 24) rfl (w.heap.size + 2) 0 (cRc zRc).toArray rfl rfl HTh.out HSz'.out HOz.out ?_)
      refine fin (fun W => Blk W (w.heap.size + 2) 40 (cRc zRc).toArray ∧ Below w.heap.size w W) HFi.out ?_
      rintro Wz ⟨kr, hbz⟩
      have hl := run_loadVar_mid Wz (w.heap.size + 2) 0 40 (cRc zRc) _ (blk_whole kr) Try.underlying40 rfl (rf_size zRc)
      (try simp only [Act.put, List.setIfInBounds_toArray, List.set_cons_zero, List.set_cons_succ])
      exact bodyPost_ret (v := .tuple #[.agg (cRc zRc).toArray, .bool false, .int .i64 0]) (results_cell3 Try.results7 rfl rfl rfl hl) rfl ⟨by rw [HV.out.1, HV.out.2.1, HV.out.2.2], hbz⟩
    · obtain ⟨_, _, _, _, _, _, hr14⟩ := HC4.out _ _ K4b.out
      have HR14 := Lib.hid hr14
      have HR0 := Lib.hid (blk_whole K5b.out)
      clear hr14
      go_wp2_with (first
        | refine wpList_load_mid rfl 26 (.tmp 6) rfl (w.heap.size + 1) 0 rfl XM _ HR0.out Try.underlying26 rfl HSm.out ?_
        | refine wpList_load_mid rfl 30 (.tmp 27) rfl w.heap.size 14 rfl XB _ HR14.out Try.underlying30 rfl HSb.out ?_)
      refine (HCa.out _).mono ?_
      rintro e w2 ⟨rfl, hb⟩
      have K4c := Lib.hid (K4b.out.keep hb)
      have K6c := Lib.hid (K6b.out.keep hb)
      have HBc := Lib.hid (bthen HBb.out hb)
      clear hb K4b K5b K6b HBb HR0 HR14 HCa
      have HW3 : Hid (Blk (w2.alloc (.cells #[.int .i64 q0, .int .i64 q1, .int .i64 q2, .int .i64 q3, .int .i64 q4, .int .i64 q5] 30)) w.heap.size 32 XP.toArray ∧ Blk (w2.alloc (.cells #[.int .i64 q0, .int .i64 q1, .int .i64 q2, .int .i64 q3, .int .i64 q4, .int .i64 q5] 30)) (w.heap.size + 2) 40 (cRc zRc).toArray ∧ Blk (w2.alloc (.cells #[.int .i64 q0, .int .i64 q1, .int .i64 q2, .int .i64 q3, .int .i64 q4, .int .i64 q5] 30)) w2.heap.size 30 #[.int .i64 q0, .int .i64 q1, .int .i64 q2, .int .i64 q3, .int .i64 q4, .int .i64 q5] ∧ Below w.heap.size w (w2.alloc (.cells #[.int .i64 q0, .int .i64 q1, .int .i64 q2, .int .i64 q3, .int .i64 q4, .int .i64 q5] 30))) := Lib.hid ⟨K4c.out.alloc _, K6c.out.alloc _, Blk.new _ _ _, balloc HBc.out _⟩
      go_upto_region 5 with fail
      refine fin (fun W => Blk W w.heap.size 32 XP.toArray ∧ Blk W (w.heap.size + 2) 40 (cRc zRc).toArray ∧ Blk W w2.heap.size 30 #[.int .i64 q0, .int .i64 q1, .int .i64 q2, .int .i64 q3, .int .i64 q4, .int .i64 q5] ∧ Below w.heap.size w W) HW3.out ?_
      obtain ⟨g9, hg9⟩ : ∃ g9, g9 = w2.heap.size := ⟨_, rfl⟩
      have hg9l : w.heap.size + 2 < g9 := by
        have q := K6c.out.lt
        omega
      rw [← hg9]
      clear HW3 hg9 K4c K6c HBc
      rintro W3 ⟨k4, k6, k9, hb⟩
      have K4d := Lib.hid k4
      have K6d := Lib.hid k6
      have K9 := Lib.hid k9
      have HBd := Lib.hid hb
      clear k4 k6 k9 hb
      by_cases he : ce = 0
      · have HV := Lib.hid (HYe.out (by trivial) (by trivial) he)
        have e1 : (ce != 0) = false := by rw [he]; rfl
        clear he
        obtain ⟨_, a1, a2, a3, a4, _, _⟩ := HC4.out _ _ K4d.out
        have d0 := K9.out.cell 0
        have d1 := K9.out.cell 1
        have d2 := K9.out.cell 2
        have d3 := K9.out.cell 3
        have d4 := K9.out.cell 4
        have d5 := K9.out.cell 5
        have hl9 := K9.out.lt
        have hl4 := K4d.out.lt
        have KN := Blk.new W3 40 (cRc zRc).toArray
        have HTh : Hid ((W3.alloc (.cells (cRc zRc).toArray 40)).there W3.heap.size 0 ([.int .i64 x, .int .i64 p1, .int .i64 p2, .int .i64 p3, .bool p4, .int .i64 1, .int .i64 q0, .int .i64 q1, .int .i64 q2, .int .i64 q3, .int .i64 q4, .int .i64 q5] : List Value).toArray.size) := Lib.hid (blk_there KN (Nat.le_refl 12))
        have HSz' : Hid ((Try.prog.info? 40).map (·.size) = some ([.int .i64 x, .int .i64 p1, .int .i64 p2, .int .i64 p3, .bool p4, .int .i64 1, .int .i64 q0, .int .i64 q1, .int .i64 q2, .int .i64 q3, .int .i64 q4, .int .i64 q5] : List Value).toArray.size) := Lib.hid (by kernel_rfl)
        have HOz : Hid (([.int .i64 x, .int .i64 p1, .int .i64 p2, .int .i64 p3, .bool p4, .int .i64 1, .int .i64 q0, .int .i64 q1, .int .i64 q2, .int .i64 q3, .int .i64 q4, .int .i64 q5] : List Value).toArray.all (·.oneCell') = true) := Lib.hid (rc_all (Rc.mk x p1 p2 p3 p4 1 q0 q1 q2 q3 q4 q5))
        have HW4 : Hid (Blk ((W3.alloc (.cells (cRc zRc).toArray 40)).setCells W3.heap.size 0 [.int .i64 x, .int .i64 p1, .int .i64 p2, .int .i64 p3, .bool p4, .int .i64 1, .int .i64 q0, .int .i64 q1, .int .i64 q2, .int .i64 q3, .int .i64 q4, .int .i64 q5]) w.heap.size 32 XP.toArray ∧ Blk ((W3.alloc (.cells (cRc zRc).toArray 40)).setCells W3.heap.size 0 [.int .i64 x, .int .i64 p1, .int .i64 p2, .int .i64 p3, .bool p4, .int .i64 1, .int .i64 q0, .int .i64 q1, .int .i64 q2, .int .i64 q3, .int .i64 q4, .int .i64 q5]) (w.heap.size + 2) 40 (cRc zRc).toArray ∧ Blk ((W3.alloc (.cells (cRc zRc).toArray 40)).setCells W3.heap.size 0 [.int .i64 x, .int .i64 p1, .int .i64 p2, .int .i64 p3, .bool p4, .int .i64 1, .int .i64 q0, .int .i64 q1, .int .i64 q2, .int .i64 q3, .int .i64 q4, .int .i64 q5]) W3.heap.size 40 ([.int .i64 x, .int .i64 p1, .int .i64 p2, .int .i64 p3, .bool p4, .int .i64 1, .int .i64 q0, .int .i64 q1, .int .i64 q2, .int .i64 q3, .int .i64 q4, .int .i64 q5] : List Value).toArray ∧ Below w.heap.size w ((W3.alloc (.cells (cRc zRc).toArray 40)).setCells W3.heap.size 0 [.int .i64 x, .int .i64 p1, .int .i64 p2, .int .i64 p3, .bool p4, .int .i64 1, .int .i64 q0, .int .i64 q1, .int .i64 q2, .int .i64 q3, .int .i64 q4, .int .i64 q5])) := Lib.hid (by
          have hbel : Below W3.heap.size W3 ((W3.alloc (.cells (cRc zRc).toArray 40)).setCells W3.heap.size 0 [.int .i64 x, .int .i64 p1, .int .i64 p2, .int .i64 p3, .bool p4, .int .i64 1, .int .i64 q0, .int .i64 q1, .int .i64 q2, .int .i64 q3, .int .i64 q4, .int .i64 q5]) := below_setCells _ (alloc_below _ _) (Nat.le_refl _)
          refine ⟨K4d.out.keep hbel, K6d.out.keep hbel, ?_, bthen HBd.out hbel⟩
          have q := blk_setCells [.int .i64 x, .int .i64 p1, .int .i64 p2, .int .i64 p3, .bool p4, .int .i64 1, .int .i64 q0, .int .i64 q1, .int .i64 q2, .int .i64 q3, .int .i64 q4, .int .i64 q5] (o := 0) KN (Nat.le_refl 12)
          have e := splice_all (X := [.int .i64 x, .int .i64 p1, .int .i64 p2, .int .i64 p3, .bool p4, .int .i64 1, .int .i64 q0, .int .i64 q1, .int .i64 q2, .int .i64 q3, .int .i64 q4, .int .i64 q5]) (Z := cRc zRc) rfl
          rw [e] at q
          exact q)
        clear KN
        go_upto_region 8 with (refine wpList_store_mid rfl 40 (.tmp 14) (.tmp 46) rfl W3.heap.size 0 ([.int .i64 x, .int .i64 p1, .int .i64 p2, .int .i64 p3, .bool p4, .int .i64 1, .int .i64 q0, .int .i64 q1, .int .i64 q2, .int .i64 q3, .int .i64 q4, .int .i64 q5] : List Value).toArray rfl rfl HTh.out HSz'.out HOz.out ?_)
        refine fin (fun W => Blk W w.heap.size 32 XP.toArray ∧ Blk W (w.heap.size + 2) 40 (cRc zRc).toArray ∧ Blk W W3.heap.size 40 ([.int .i64 x, .int .i64 p1, .int .i64 p2, .int .i64 p3, .bool p4, .int .i64 1, .int .i64 q0, .int .i64 q1, .int .i64 q2, .int .i64 q3, .int .i64 q4, .int .i64 q5] : List Value).toArray ∧ Below w.heap.size w W) HW4.out ?_
        obtain ⟨g14, hg⟩ : ∃ g14, g14 = W3.heap.size := ⟨_, rfl⟩
        have hg14l : w.heap.size + 2 < g14 := by
          have q := K6d.out.lt
          omega
        rw [← hg]
        clear HW4 HTh hg K4d K6d K9 HBd d0 d1 d2 d3 d4 d5 a1 a2 a3 a4 hl9 hl4
        rintro W4 ⟨k4, k6, k14, hb⟩
        obtain ⟨a0, _, _, _, _, a5, _⟩ := HC4.out _ _ k4
        have hl4 := k4.lt
        have hl14 := k14.lt
        have f14 := k14.frozen 5
        have c14 := k14.cell 5
        have K6e := Lib.hid k6
        have K14 := Lib.hid k14
        have HBe := Lib.hid hb
        clear k4 k6 k14 hb
        go_wp2_with fail
        refine (HHs.out _).mono ?_
        rintro e w5 ⟨rfl, rfl⟩
        cases hs3
        · skip
          have HTz : Hid (W4.there (w.heap.size + 2) 0 ([.int .i64 x, .int .i64 p1, .int .i64 p2, .int .i64 p3, .bool p4, .int .i64 1, .int .i64 q0, .int .i64 q1, .int .i64 q2, .int .i64 q3, .int .i64 q4, .int .i64 q5] : List Value).toArray.size) := Lib.hid (blk_there K6e.out (Nat.le_refl 12))
          have HSy : Hid ((Try.prog.info? 40).map (·.size) = some ([.int .i64 x, .int .i64 p1, .int .i64 p2, .int .i64 p3, .bool p4, .int .i64 1, .int .i64 q0, .int .i64 q1, .int .i64 q2, .int .i64 q3, .int .i64 q4, .int .i64 q5] : List Value).length) := Lib.hid (by kernel_rfl)
          have HSy' : Hid ((Try.prog.info? 40).map (·.size) = some ([.int .i64 x, .int .i64 p1, .int .i64 p2, .int .i64 p3, .bool p4, .int .i64 1, .int .i64 q0, .int .i64 q1, .int .i64 q2, .int .i64 q3, .int .i64 q4, .int .i64 q5] : List Value).toArray.size) := Lib.hid (by kernel_rfl)
          have HOy : Hid (([.int .i64 x, .int .i64 p1, .int .i64 p2, .int .i64 p3, .bool p4, .int .i64 1, .int .i64 q0, .int .i64 q1, .int .i64 q2, .int .i64 q3, .int .i64 q4, .int .i64 q5] : List Value).toArray.all (·.oneCell') = true) := Lib.hid (rc_all (Rc.mk x p1 p2 p3 p4 1 q0 q1 q2 q3 q4 q5))
          have HWl : Hid (W4.rangeAt g14 0 [.int .i64 x, .int .i64 p1, .int .i64 p2, .int .i64 p3, .bool p4, .int .i64 1, .int .i64 q0, .int .i64 q1, .int .i64 q2, .int .i64 q3, .int .i64 q4, .int .i64 q5]) := Lib.hid (blk_whole K14.out)
          have HFi : Hid (Blk (W4.setCells (w.heap.size + 2) 0 [.int .i64 x, .int .i64 p1, .int .i64 p2, .int .i64 p3, .bool p4, .int .i64 1, .int .i64 q0, .int .i64 q1, .int .i64 q2, .int .i64 q3, .int .i64 q4, .int .i64 q5]) (w.heap.size + 2) 40 ([.int .i64 x, .int .i64 p1, .int .i64 p2, .int .i64 p3, .bool p4, .int .i64 1, .int .i64 q0, .int .i64 q1, .int .i64 q2, .int .i64 q3, .int .i64 q4, .int .i64 q5] : List Value).toArray ∧ Below w.heap.size w (W4.setCells (w.heap.size + 2) 0 [.int .i64 x, .int .i64 p1, .int .i64 p2, .int .i64 p3, .bool p4, .int .i64 1, .int .i64 q0, .int .i64 q1, .int .i64 q2, .int .i64 q3, .int .i64 q4, .int .i64 q5])) := Lib.hid (by
            have q := blk_setCells [.int .i64 x, .int .i64 p1, .int .i64 p2, .int .i64 p3, .bool p4, .int .i64 1, .int .i64 q0, .int .i64 q1, .int .i64 q2, .int .i64 q3, .int .i64 q4, .int .i64 q5] (o := 0) K6e.out (Nat.le_refl 12)
            have e := splice_all (X := [.int .i64 x, .int .i64 p1, .int .i64 p2, .int .i64 p3, .bool p4, .int .i64 1, .int .i64 q0, .int .i64 q1, .int .i64 q2, .int .i64 q3, .int .i64 q4, .int .i64 q5]) (Z := cRc zRc) rfl
            rw [e] at q
            exact ⟨q, below_setCells _ HBe.out (by omega)⟩)
          go_wp2_with (first
            | refine wpList_load_mid rfl 40 (.tmp 14) rfl g14 0 rfl [.int .i64 x, .int .i64 p1, .int .i64 p2, .int .i64 p3, .bool p4, .int .i64 1, .int .i64 q0, .int .i64 q1, .int .i64 q2, .int .i64 q3, .int .i64 q4, .int .i64 q5] _ HWl.out Try.underlying40 rfl HSy.out ?_
            | refine wpList_store_mid rfl 40 (.tmp 8) (.tmp 54) rfl (w.heap.size + 2) 0 ([.int .i64 x, .int .i64 p1, .int .i64 p2, .int .i64 p3, .bool p4, .int .i64 1, .int .i64 q0, .int .i64 q1, .int .i64 q2, .int .i64 q3, .int .i64 q4, .int .i64 q5] : List Value).toArray rfl rfl HTz.out HSy'.out HOy.out ?_)
          refine fin (fun W => Blk W (w.heap.size + 2) 40 ([.int .i64 x, .int .i64 p1, .int .i64 p2, .int .i64 p3, .bool p4, .int .i64 1, .int .i64 q0, .int .i64 q1, .int .i64 q2, .int .i64 q3, .int .i64 q4, .int .i64 q5] : List Value).toArray ∧ Below w.heap.size w W) HFi.out ?_
          rintro Wz ⟨kr, hbz⟩
          have hl := run_loadVar_mid Wz (w.heap.size + 2) 0 40 [.int .i64 x, .int .i64 p1, .int .i64 p2, .int .i64 p3, .bool p4, .int .i64 1, .int .i64 q0, .int .i64 q1, .int .i64 q2, .int .i64 q3, .int .i64 q4, .int .i64 q5] _ (blk_whole kr) Try.underlying40 rfl HSy.out
          (try simp only [Act.put, List.setIfInBounds_toArray, List.set_cons_zero, List.set_cons_succ])
          exact bodyPost_ret (v := .tuple #[.agg ([.int .i64 x, .int .i64 p1, .int .i64 p2, .int .i64 p3, .bool p4, .int .i64 1, .int .i64 q0, .int .i64 q1, .int .i64 q2, .int .i64 q3, .int .i64 q4, .int .i64 q5] : List Value).toArray, .bool true, .int .i64 0]) (results_cell3 Try.results7 rfl rfl rfl hl) rfl ⟨by rw [HV.out.1, HV.out.2.1, HV.out.2.2, HRec.out]; rfl, hbz⟩
        · have K6f : Blk (W4.setCell ⟨g14, 5, none⟩ (.int .i64 p5)) (w.heap.size + 2) 40 (cRc zRc).toArray := K6e.out.far (by show w.heap.size + 2 ≠ g14; omega) _
          have K14f : Blk (W4.setCell ⟨g14, 5, none⟩ (.int .i64 p5)) g14 40 ([.int .i64 x, .int .i64 p1, .int .i64 p2, .int .i64 p3, .bool p4, .int .i64 p5, .int .i64 q0, .int .i64 q1, .int .i64 q2, .int .i64 q3, .int .i64 q4, .int .i64 q5] : List Value).toArray := K14.out.set_ 5 (.int .i64 p5)
          have HBf : Below w.heap.size w (W4.setCell ⟨g14, 5, none⟩ (.int .i64 p5)) := HBe.out.setCell (p := ⟨g14, 5, none⟩) (by show w.heap.size ≤ g14; omega) _
          have HTz : Hid ((W4.setCell ⟨g14, 5, none⟩ (.int .i64 p5)).there (w.heap.size + 2) 0 ([.int .i64 x, .int .i64 p1, .int .i64 p2, .int .i64 p3, .bool p4, .int .i64 p5, .int .i64 q0, .int .i64 q1, .int .i64 q2, .int .i64 q3, .int .i64 q4, .int .i64 q5] : List Value).toArray.size) := Lib.hid (blk_there K6f (Nat.le_refl 12))
          have HSy : Hid ((Try.prog.info? 40).map (·.size) = some ([.int .i64 x, .int .i64 p1, .int .i64 p2, .int .i64 p3, .bool p4, .int .i64 p5, .int .i64 q0, .int .i64 q1, .int .i64 q2, .int .i64 q3, .int .i64 q4, .int .i64 q5] : List Value).length) := Lib.hid (by kernel_rfl)
          have HSy' : Hid ((Try.prog.info? 40).map (·.size) = some ([.int .i64 x, .int .i64 p1, .int .i64 p2, .int .i64 p3, .bool p4, .int .i64 p5, .int .i64 q0, .int .i64 q1, .int .i64 q2, .int .i64 q3, .int .i64 q4, .int .i64 q5] : List Value).toArray.size) := Lib.hid (by kernel_rfl)
          have HOy : Hid (([.int .i64 x, .int .i64 p1, .int .i64 p2, .int .i64 p3, .bool p4, .int .i64 p5, .int .i64 q0, .int .i64 q1, .int .i64 q2, .int .i64 q3, .int .i64 q4, .int .i64 q5] : List Value).toArray.all (·.oneCell') = true) := Lib.hid (rc_all (Rc.mk x p1 p2 p3 p4 p5 q0 q1 q2 q3 q4 q5))
          have HWl : Hid ((W4.setCell ⟨g14, 5, none⟩ (.int .i64 p5)).rangeAt g14 0 [.int .i64 x, .int .i64 p1, .int .i64 p2, .int .i64 p3, .bool p4, .int .i64 p5, .int .i64 q0, .int .i64 q1, .int .i64 q2, .int .i64 q3, .int .i64 q4, .int .i64 q5]) := Lib.hid (blk_whole K14f)
          have HFi : Hid (Blk ((W4.setCell ⟨g14, 5, none⟩ (.int .i64 p5)).setCells (w.heap.size + 2) 0 [.int .i64 x, .int .i64 p1, .int .i64 p2, .int .i64 p3, .bool p4, .int .i64 p5, .int .i64 q0, .int .i64 q1, .int .i64 q2, .int .i64 q3, .int .i64 q4, .int .i64 q5]) (w.heap.size + 2) 40 ([.int .i64 x, .int .i64 p1, .int .i64 p2, .int .i64 p3, .bool p4, .int .i64 p5, .int .i64 q0, .int .i64 q1, .int .i64 q2, .int .i64 q3, .int .i64 q4, .int .i64 q5] : List Value).toArray ∧ Below w.heap.size w ((W4.setCell ⟨g14, 5, none⟩ (.int .i64 p5)).setCells (w.heap.size + 2) 0 [.int .i64 x, .int .i64 p1, .int .i64 p2, .int .i64 p3, .bool p4, .int .i64 p5, .int .i64 q0, .int .i64 q1, .int .i64 q2, .int .i64 q3, .int .i64 q4, .int .i64 q5])) := Lib.hid (by
            have q := blk_setCells [.int .i64 x, .int .i64 p1, .int .i64 p2, .int .i64 p3, .bool p4, .int .i64 p5, .int .i64 q0, .int .i64 q1, .int .i64 q2, .int .i64 q3, .int .i64 q4, .int .i64 q5] (o := 0) K6f (Nat.le_refl 12)
            have e := splice_all (X := [.int .i64 x, .int .i64 p1, .int .i64 p2, .int .i64 p3, .bool p4, .int .i64 p5, .int .i64 q0, .int .i64 q1, .int .i64 q2, .int .i64 q3, .int .i64 q4, .int .i64 q5]) (Z := cRc zRc) rfl
            rw [e] at q
            exact ⟨q, below_setCells _ HBf (by omega)⟩)
          go_wp2_with (first
            | refine wpList_load_mid rfl 40 (.tmp 14) rfl g14 0 rfl [.int .i64 x, .int .i64 p1, .int .i64 p2, .int .i64 p3, .bool p4, .int .i64 p5, .int .i64 q0, .int .i64 q1, .int .i64 q2, .int .i64 q3, .int .i64 q4, .int .i64 q5] _ HWl.out Try.underlying40 rfl HSy.out ?_
            | refine wpList_store_mid rfl 40 (.tmp 8) (.tmp 54) rfl (w.heap.size + 2) 0 ([.int .i64 x, .int .i64 p1, .int .i64 p2, .int .i64 p3, .bool p4, .int .i64 p5, .int .i64 q0, .int .i64 q1, .int .i64 q2, .int .i64 q3, .int .i64 q4, .int .i64 q5] : List Value).toArray rfl rfl HTz.out HSy'.out HOy.out ?_)
          refine fin (fun W => Blk W (w.heap.size + 2) 40 ([.int .i64 x, .int .i64 p1, .int .i64 p2, .int .i64 p3, .bool p4, .int .i64 p5, .int .i64 q0, .int .i64 q1, .int .i64 q2, .int .i64 q3, .int .i64 q4, .int .i64 q5] : List Value).toArray ∧ Below w.heap.size w W) HFi.out ?_
          rintro Wz ⟨kr, hbz⟩
          have hl := run_loadVar_mid Wz (w.heap.size + 2) 0 40 [.int .i64 x, .int .i64 p1, .int .i64 p2, .int .i64 p3, .bool p4, .int .i64 p5, .int .i64 q0, .int .i64 q1, .int .i64 q2, .int .i64 q3, .int .i64 q4, .int .i64 q5] _ (blk_whole kr) Try.underlying40 rfl HSy.out
          (try simp only [Act.put, List.setIfInBounds_toArray, List.set_cons_zero, List.set_cons_succ])
          exact bodyPost_ret (v := .tuple #[.agg ([.int .i64 x, .int .i64 p1, .int .i64 p2, .int .i64 p3, .bool p4, .int .i64 p5, .int .i64 q0, .int .i64 q1, .int .i64 q2, .int .i64 q3, .int .i64 q4, .int .i64 q5] : List Value).toArray, .bool true, .int .i64 0]) (results_cell3 Try.results7 rfl rfl rfl hl) rfl ⟨by rw [HV.out.1, HV.out.2.1, HV.out.2.2, HRec.out]; rfl, hbz⟩
      · have HV := Lib.hid (HEr.out (by trivial) (by trivial) he)
        have e1 : (ce != 0) = true := by simpa using he
        clear he
        have HTh : Hid (W3.there (w.heap.size + 2) 0 (cRc zRc).toArray.size) := Lib.hid (blk_there K6d.out (Nat.le_refl 12))
        have HSz' : Hid ((Try.prog.info? 40).map (·.size) = some (cRc zRc).toArray.size) := Lib.hid (rf_size zRc)
        have HOz := Lib.hid (rc_all zRc)
        have HFi : Hid (Blk (W3.setCells (w.heap.size + 2) 0 (cRc zRc)) (w.heap.size + 2) 40 (cRc zRc).toArray ∧ Below w.heap.size w (W3.setCells (w.heap.size + 2) 0 (cRc zRc))) := Lib.hid (by
          have q := blk_setCells (cRc zRc) (o := 0) K6d.out (Nat.le_refl 12)
          rw [splice_rc] at q
          exact ⟨q, below_setCells _ HBd.out (by omega)⟩)
        go_wp2_with (refine wpList_store_mid rfl 40 (.tmp 8) (.tmp 34) rfl (w.heap.size + 2) 0 (cRc zRc).toArray rfl rfl HTh.out HSz'.out HOz.out ?_)
        refine fin (fun W => Blk W (w.heap.size + 2) 40 (cRc zRc).toArray ∧ Below w.heap.size w W) HFi.out ?_
        rintro Wz ⟨kr, hbz⟩
        have hl := run_loadVar_mid Wz (w.heap.size + 2) 0 40 (cRc zRc) _ (blk_whole kr) Try.underlying40 rfl (rf_size zRc)
        (try simp only [Act.put, List.setIfInBounds_toArray, List.set_cons_zero, List.set_cons_succ])
        exact bodyPost_ret (v := .tuple #[.agg (cRc zRc).toArray, .bool false, .int .i64 ce]) (results_cell3 Try.results7 rfl rfl rfl hl) rfl ⟨by rw [HV.out.1, HV.out.2.1, HV.out.2.2], hbz⟩
end Go.Proofs.Ytffbehcbokmpkaa
