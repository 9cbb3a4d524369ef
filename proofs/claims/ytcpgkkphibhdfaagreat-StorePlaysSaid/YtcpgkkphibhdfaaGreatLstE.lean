/-
  The landed store: what Get answers.
-/
import Derived.Test.YtcpgkkphibhdfaaGreatLstD
namespace Go.Proofs.YtcpgkkphibhdfaaGreat
open Go.RowKit

theorem b9zero (W : World) : (Instr.build 44 #[]).run Tryz.prog W = .ok (.agg (pl zT).toArray) W := by kernel_rfl
theorem wpList_bld9 {ops : Array Oper} {rest : List Oper} {op : Oper} {a : Go.Act} {w : World} {Q : Exit → Go.Act → World → Prop} (hgd : op.guard = none) (t : TypeId) (ho : op.op = .build t #[]) (vr : Value)
    (hrun : ∀ W, (Instr.build t #[]).run Tryz.prog W = .ok vr W)
    (h : wpList Tryz.prog ops Q rest (a.put op.dst vr) w) : wpList Tryz.prog ops Q (op :: rest) a w :=
  wpList_plain hgd fun K hK => by
    have h2 := hK _ _ h
    unfold Oper.wp execOp
    simp only [ho]
    simp [hrun]
    exact h2
set_option maxHeartbeats 4000000 in
set_option maxRecDepth 100000 in
theorem lget_any {w : World} {g : Nat} {F : Nat → Prop} {S : St} (h0 : LSB w g F S) (hW : WS S) (hB : Bd S 1000) (id : Int) :
    Calls Tryz.prog 12 #[.pointer (some ⟨g, 0, none⟩), .int .i64 id] w fun e w' => ∃ Y, e = .returned (.tuple #[.agg (List.toArray Y), .bool (getB S id)]) ∧ Y = pl (getP S id) ∧ Below w.heap.size w w' := by
  obtain ⟨p, c0, hlv, _⟩ := h0.live
  have HLv : Hid (∀ u, Below w.heap.size w u → Calls Tryz.prog 41 #[.pointer (some ⟨p, 0, none⟩), .int .i64 id] u fun e w' => e = .returned (.bool (liveS S id)) ∧ Below u.heap.size u w') := Lib.hid (fun u k => by
    obtain ⟨p', c0', hlv', _⟩ := (h0.keep k).live
    rw [cell_keep c0 k] at c0'
    injection c0' with c0'
    injection c0' with c0'
    injection c0' with c0'
    injection c0' with c0'
    rw [c0']
    exact hlv' id)
  have HPX := Lib.hid (pxs (getP S id))
  have hg := h0.inH
  have K4 := Lib.hid (Blk.new w 44 Z24.toArray)
  have HB4 : Hid (Below w.heap.size w (w.alloc (.cells Z24.toArray 44))) := Lib.hid (alloc_below _ _)
  have c4 := cell_keep c0 HB4.out
  clear c0 hlv
  cases ha : atS S id with
  | none =>
    have e3 : getB S id = false := by unfold getB; rw [ha]; rfl
    have e4 : getP S id = zT := by unfold getP; rw [ha]
    rw [at_dead hW ha] at HLv
    rw [e3]
    have HBd : Hid (∀ W, (Instr.build 44 #[]).run Tryz.prog W = .ok (.agg (pl (getP S id)).toArray) W) := Lib.hid (by rw [e4]; exact b9zero)
    obtain ⟨Xp, hXp⟩ : ∃ Xp, Xp = pl (getP S id) := ⟨_, rfl⟩
    rw [← hXp] at HPX HBd ⊢
    clear hXp e3 e4 ha h0 hW hB
    go_enter Tryz.func12, Tryz.ntmps12
    go_upto_region 1 with fail
    refine fin (fun W => Blk W w.heap.size 44 Z24.toArray ∧ Below w.heap.size w W ∧ W.cell? ⟨g, 0, none⟩ = some (.pointer (some ⟨p, 0, none⟩))) ⟨K4.out, HB4.out, c4⟩ ?_
    clear K4 HB4 c4
    rintro W0 ⟨k4, b4, c4⟩
    have K4 := Lib.hid k4
    have HB4 := Lib.hid b4
    have zg : g < W0.heap.size := Nat.lt_of_lt_of_le hg b4.size
    clear k4 b4
    go_wp2_with fail
    refine (HLv.out _ HB4.out).mono ?_
    rintro e w1 ⟨rfl, b1⟩
    replace K4 := Lib.hid (Blk.keep K4.out b1)
    replace HB4 := Lib.hid (bthen HB4.out b1)
    have HT4 : Hid (w1.there w.heap.size 0 Xp.toArray.size) := Lib.hid (blk_there K4.out (by rw [List.size_toArray, HPX.out.1]; exact Nat.le_refl 24))
    have L4 : Hid (Blk (w1.setCells w.heap.size 0 Xp) w.heap.size 44 Xp.toArray) := Lib.hid (blk_over K4.out (by rw [HPX.out.1]; rfl))
    have z1 := K4.out.lt
    clear b1
    go_wp2_with (first | refine wpList_bld9 rfl 44 rfl (.agg Xp.toArray) HBd.out ?_ | refine wpList_store_mid rfl 44 (.tmp 4) (.tmp 22) rfl w.heap.size 0 Xp.toArray rfl rfl HT4.out HPX.out.2.2.1 HPX.out.2.2.2 ?_)
    refine fin (fun W => Blk W w.heap.size 44 Xp.toArray ∧ Below w.heap.size w W) ⟨L4.out, below_setCells _ HB4.out (Nat.le_refl _)⟩ ?_
    rintro W ⟨kr, hb⟩
    have hl := run_loadVar_mid W w.heap.size 0 44 Xp _ (blk_whole kr) Tryz.underlying44 rfl HPX.out.2.1
    try simp only [Go.Act.put, List.setIfInBounds_toArray, List.set_cons_zero, List.set_cons_succ]
    exact bodyPost_ret (v := .tuple #[.agg Xp.toArray, .bool false]) (results_cell2 Tryz.results12 rfl rfl hl) rfl ⟨Xp, rfl, rfl, hb⟩
  | some i =>
    have e3 : getB S id = true := by unfold getB; rw [ha]; rfl
    obtain ⟨hi, hh⟩ := at_some ha
    obtain ⟨r, hrl, hfr, hrid, hin⟩ := find_row (hW.nod i hi) hh
    have e4 : getP S id = ((S.T i).getD (findI (S.T i) id).toNat d0).2 := by unfold getP; rw [ha]
    rw [at_live hW ha] at HLv
    rw [e3]
    obtain ⟨ls, lt, ⟨p2, mb, ts, Lf, gv, lab, h, hF⟩, hI⟩ := h0
    obtain ⟨ho, _, hls, a, hts⟩ := h.there hI hW ha
    have HFi : Hid (∀ u, Below w.heap.size w u → Calls Tryz.prog 42 #[.pointer (some ⟨g, 0, none⟩), .int .i64 id] u fun e w' => e = .returned (.tuple #[.pointer (some ⟨a, 0, none⟩), .int .i64 (findI (S.T i) id)]) ∧ Below u.heap.size u w') := Lib.hid (fun u k => lfind_any (h.keep k) id ho hi hls hts (hB.2.2.1 i hi))
    have HRw : Hid (∀ u, Below w.heap.size w u → Calls Tryz.prog 43 #[.pointer (some ⟨a, 0, none⟩), .int .i64 (findI (S.T i) id)] u fun e w' => ∃ x : Int, e = .returned (.tuple #[.int .i64 x, .agg (pl (getP S id)).toArray, .bool true]) ∧ Below u.heap.size u w') := Lib.hid (fun u k => by
      have ht := (h.keep k).tab i hi
      rw [hts] at ht
      refine (trow_any u a (Lf i) i (S.T i) (findI (S.T i) id) (hB.2.2.1 i hi) ht).mono ?_
      rintro e w' ⟨x, P, rfl, q1, q2⟩
      have := q1 hin
      refine ⟨x, ?_, q2⟩
      rw [hin, e4, ← this])
    obtain ⟨Xp, hXp⟩ : ∃ Xp, Xp = pl (getP S id) := ⟨_, rfl⟩
    rw [← hXp] at HPX HRw ⊢
    obtain ⟨q, hq⟩ : ∃ q, q = findI (S.T i) id := ⟨_, rfl⟩
    rw [← hq] at HFi HRw
    clear hXp hq e3 e4 ha hW hB hh hrl hfr hrid hin h hF hI ho hls hts
    go_enter Tryz.func12, Tryz.ntmps12
    go_upto_region 1 with fail
    refine fin (fun W => Blk W w.heap.size 44 Z24.toArray ∧ Below w.heap.size w W ∧ W.cell? ⟨g, 0, none⟩ = some (.pointer (some ⟨p, 0, none⟩))) ⟨K4.out, HB4.out, c4⟩ ?_
    clear K4 HB4 c4
    rintro W0 ⟨k4, b4, c4⟩
    have K4 := Lib.hid k4
    have HB4 := Lib.hid b4
    have zg : g < W0.heap.size := Nat.lt_of_lt_of_le hg b4.size
    clear k4 b4
    go_wp2_with fail
    refine (HLv.out _ HB4.out).mono ?_
    rintro e w1 ⟨rfl, b1⟩
    replace K4 := Lib.hid (Blk.keep K4.out b1)
    replace HB4 := Lib.hid (bthen HB4.out b1)
    clear b1 c4
    go_wp2_with fail
    refine (HFi.out _ HB4.out).mono ?_
    rintro e w2 ⟨rfl, b1⟩
    replace K4 := Lib.hid (Blk.keep K4.out b1)
    replace HB4 := Lib.hid (bthen HB4.out b1)
    clear b1
    go_wp2_with fail
    refine (HRw.out _ HB4.out).mono ?_
    rintro e w3 ⟨x, rfl, b1⟩
    replace K4 := Lib.hid (Blk.keep K4.out b1)
    replace HB4 := Lib.hid (bthen HB4.out b1)
    clear b1
    have KA := Lib.hid (Blk.new w3 44 Z24.toArray)
    have HTA : Hid ((w3.alloc (.cells Z24.toArray 44)).there w3.heap.size 0 Xp.toArray.size) := Lib.hid (blk_there KA.out (by rw [List.size_toArray, HPX.out.1]; exact Nat.le_refl 24))
    have HBA : Hid (Below w3.heap.size w3 ((w3.alloc (.cells Z24.toArray 44)).setCells w3.heap.size 0 Xp)) := Lib.hid (below_setCells Xp (alloc_below _ _) (Nat.le_refl _))
    have LA : Hid (Blk ((w3.alloc (.cells Z24.toArray 44)).setCells w3.heap.size 0 Xp) w3.heap.size 44 Xp.toArray) := Lib.hid (by
      have := blk_setCells Xp (o := 0) KA.out (by rw [HPX.out.1]; exact Nat.le_refl 24)
      rwa [splice_all (by rw [HPX.out.1]; rfl)] at this)
    go_upto_region 5 with (refine wpList_store_mid rfl 44 (.tmp 9) (.tmp 34) rfl w3.heap.size 0 Xp.toArray rfl rfl HTA.out HPX.out.2.2.1 HPX.out.2.2.2 ?_)
    refine fin (fun W => Blk W w3.heap.size 44 Xp.toArray ∧ Blk W w.heap.size 44 Z24.toArray ∧ Below w.heap.size w W) ⟨LA.out, Blk.keep K4.out HBA.out, bthen HB4.out HBA.out⟩ ?_
    obtain ⟨g9, hg9⟩ : ∃ g9, g9 = w3.heap.size := ⟨_, rfl⟩
    rw [← hg9]
    clear KA HTA HBA LA HB4 hg9 K4
    rintro W ⟨k9, k4, hb⟩
    have K9 := Lib.hid (blk_whole k9)
    have z9 := k9.lt
    have z4 := k4.lt
    have HB5 := Lib.hid hb
    have HT4 : Hid (W.there w.heap.size 0 Xp.toArray.size) := Lib.hid (blk_there k4 (by rw [List.size_toArray, HPX.out.1]; exact Nat.le_refl 24))
    have L4 : Hid (Blk (W.setCells w.heap.size 0 Xp) w.heap.size 44 Xp.toArray) := Lib.hid (blk_over k4 (by rw [HPX.out.1]; rfl))
    clear k9 k4 hb
    go_wp2_with (first | refine wpList_load_mid rfl 44 (.tmp 9) rfl g9 0 rfl Xp _ K9.out Tryz.underlying44 rfl HPX.out.2.1 ?_ | refine wpList_store_mid rfl 44 (.tmp 4) (.tmp 36) rfl w.heap.size 0 Xp.toArray rfl rfl HT4.out HPX.out.2.2.1 HPX.out.2.2.2 ?_)
    refine fin (fun W => Blk W w.heap.size 44 Xp.toArray ∧ Below w.heap.size w W) ⟨L4.out, below_setCells _ HB5.out (Nat.le_refl _)⟩ ?_
    rintro W2 ⟨kr, hb⟩
    have hl := run_loadVar_mid W2 w.heap.size 0 44 Xp _ (blk_whole kr) Tryz.underlying44 rfl HPX.out.2.1
    try simp only [Go.Act.put, List.setIfInBounds_toArray, List.set_cons_zero, List.set_cons_succ]
    exact bodyPost_ret (v := .tuple #[.agg Xp.toArray, .bool true]) (results_cell2 Tryz.results12 rfl rfl hl) rfl ⟨Xp, rfl, rfl, hb⟩

end Go.Proofs.YtcpgkkphibhdfaaGreat
