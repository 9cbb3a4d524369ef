/-
  'same' of the law StorePlays of layer 8, for any package that answers as the bundle says.
-/
import Derived.Test.YtcpgkkphibhdfaaGreatStoX
namespace Go.Proofs.YtcpgkkphibhdfaaGreat
open Go.RowKit

section
variable {SB : World → Nat → (Nat → Prop) → St → Prop}
set_option maxHeartbeats 8000000 in
set_option maxRecDepth 100000 in
theorem same8_any (hC : SC SB) {w : World} {gp gr : Nat} {Fp Fq : Nat → Prop} {S : St} (hs : SB w gp Fp S) (hr : RB w gr Fq S) (hW : WS S) (hB : Bd S 1000) (since sa sb : Int) :
    Calls Tryz.prog 10 #[.pointer (some ⟨gp, 0, none⟩), .pointer (some ⟨gr, 0, none⟩), .int .i64 since, .agg #[.int .i64 sa, .int .i64 sb]] w fun e w' => e = .returned (.bool true) ∧ Below w.heap.size w w' := by
  have HRK : Hid (∀ u, Below w.heap.size w u → RB u gr Fq S) := Lib.hid (fun u k => hr.keep k)
  have HAl : Hid (∀ u, Below w.heap.size w u → Calls Tryz.prog 13 #[.pointer (some ⟨gp, 0, none⟩)] u fun e w' => ∃ v, e = .returned v ∧ LRes u w' (alS S) v ∧ Below u.heap.size u w') := Lib.hid (fun u k => hC.all u gp Fp S hW hB (hC.keep hs k))
  have HQu : Hid (∀ u, Below w.heap.size w u → Calls Tryz.prog 14 #[.pointer (some ⟨gp, 0, none⟩), .int .i64 sa, .int .i64 sb] u fun e w' => ∃ v, e = .returned v ∧ LRes u w' (quL S sa sb) v ∧ Below u.heap.size u w') := Lib.hid (fun u k => hC.query u gp Fp S sa sb hW hB (hC.keep hs k))
  have HCh : Hid (∀ u, Below w.heap.size w u → Calls Tryz.prog 15 #[.pointer (some ⟨gp, 0, none⟩), .int .i64 since] u fun e w' => ∃ v, e = .returned v ∧ LRes u w' (chL S since) v ∧ Below u.heap.size u w') := Lib.hid (fun u k => hC.changed u gp Fp S since hW hB (hC.keep hs k))
  have HGo : Hid (∀ u, Below w.heap.size w u → Calls Tryz.prog 16 #[.pointer (some ⟨gp, 0, none⟩), .int .i64 since] u fun e w' => ∃ v, e = .returned v ∧ LRes u w' (goL S since) v ∧ Below u.heap.size u w') := Lib.hid (fun u k => hC.gone u gp Fp S since hW hB (hC.keep hs k))
  have HTi : Hid (∀ u, Below w.heap.size w u → Calls Tryz.prog 17 #[.pointer (some ⟨gp, 0, none⟩)] u fun e w' => e = .returned (.int .i64 S.now) ∧ Below u.heap.size u w') := Lib.hid (fun u k => hC.tick u gp Fp S hW hB (hC.keep hs k))
  have HGe : Hid (∀ u id, Below w.heap.size w u → Calls Tryz.prog 12 #[.pointer (some ⟨gp, 0, none⟩), .int .i64 id] u fun e w' => ∃ Y, e = .returned (.tuple #[.agg (List.toArray Y), .bool (getB S id)]) ∧ Y = pl (getP S id) ∧ Below u.heap.size u w') := Lib.hid (fun u id k => hC.get u gp Fp S id hW hB (hC.keep hs k))
  have HRG : Hid (∀ u id, Below w.heap.size w u → Calls Tryz.prog 37 #[.pointer (some ⟨gr, 0, none⟩), .int .i64 id] u fun e w' => ∃ Y, e = .returned (.tuple #[.agg (List.toArray Y), .bool (getB S id)]) ∧ Y = pl (getP S id) ∧ Below u.heap.size u w') := Lib.hid (fun u id k => by
    obtain ⟨tv, cv, gv, h, hF⟩ := hr.keep k
    exact rget_any h hW hB.2.2.1 id)
  have HW := Lib.hid hW
  have HBd := Lib.hid hB
  have HNL : (alS S).length ≤ 256 := by have := all_len S.G S.L 256; unfold alS; omega
  clear hs hr hW hB hC
  go_enter Tryz.func10, Tryz.ntmps10
  go_upto_region 1 with fail
  refine fin (fun W => W.cell? ⟨w.heap.size, 0, none⟩ = some (.int .i64 sa) ∧ W.cell? ⟨w.heap.size, 1, none⟩ = some (.int .i64 sb) ∧ Below w.heap.size w W) ⟨(Blk.new w _ #[.int .i64 sa, .int .i64 sb]).cell 0, (Blk.new w _ #[.int .i64 sa, .int .i64 sb]).cell 1, alloc_below _ _⟩ ?_
  rintro W ⟨p0, p1, hb⟩
  have HP : Hid (W.cell? ⟨w.heap.size, 0, none⟩ = some (.int .i64 sa) ∧ W.cell? ⟨w.heap.size, 1, none⟩ = some (.int .i64 sb)) := Lib.hid ⟨p0, p1⟩
  have HB := Lib.hid hb
  clear p0 p1 hb
  go_wp2_with fail
  refine (rall8 (HRK.out _ HB.out) HW.out).mono ?_
  rintro e w1 ⟨la, lcap, rfl, lrow, b1⟩
  have HL := Lib.hid lrow
  replace HP := Lib.hid (And.intro (cell_keep HP.out.1 b1) (cell_keep HP.out.2 b1))
  replace HB := Lib.hid (bthen HB.out b1)
  clear lrow b1
  obtain ⟨n, hn⟩ : ∃ n, n = (alS S).length := ⟨_, rfl⟩
  rw [← hn] at HL HNL ⊢
  have HN := Lib.hid hn
  clear hn
  go_wp2_with fail
  refine (HAl.out _ HB.out).mono ?_
  rintro e w2 ⟨v, rfl, ⟨ma, mcap, rfl, mrow, -⟩, b1⟩
  have HM := Lib.hid mrow
  replace HL := Lib.hid (row_keep HL.out b1)
  replace HP := Lib.hid (And.intro (cell_keep HP.out.1 b1) (cell_keep HP.out.2 b1))
  replace HB := Lib.hid (bthen HB.out b1)
  clear mrow b1
  go_wp2_with fail
  refine (psame_yes HM.out HL.out).mono ?_
  rintro e w3 ⟨rfl, b1⟩
  replace HL := Lib.hid (row_keep HL.out b1)
  replace HP := Lib.hid (And.intro (cell_keep HP.out.1 b1) (cell_keep HP.out.2 b1))
  replace HB := Lib.hid (bthen HB.out b1)
  clear HM b1
  go_upto_region 3 with fail
  refine fin (fun W => (W.cell? ⟨w.heap.size, 0, none⟩ = some (.int .i64 sa) ∧ W.cell? ⟨w.heap.size, 1, none⟩ = some (.int .i64 sb)) ∧ Row W la n (alS S) ∧ Below w.heap.size w W) ⟨HP.out, HL.out, HB.out⟩ ?_
  clear HP HL HB
  rintro W3 ⟨hp, hl, hb⟩
  have hpl := World.block_lt_of_cell? _ _ hp.1
  have HP : Hid (W3.drew.cell? ⟨w.heap.size, 0, none⟩ = some (.int .i64 sa) ∧ W3.drew.cell? ⟨w.heap.size, 1, none⟩ = some (.int .i64 sb)) := Lib.hid hp
  have hdr : Below W3.heap.size W3 W3.drew := ⟨rfl, rfl, rfl, Nat.le_refl _, fun _ _ => rfl⟩
  have HL := Lib.hid (row_keep hl hdr)
  have HB := Lib.hid (bthen hb hdr)
  clear hp hl hb hdr
  refine wp_region_held_drew (S := fun w' => w'.cell? ⟨w.heap.size, 0, none⟩ = some (.int .i64 sa) ∧ w'.cell? ⟨w.heap.size, 1, none⟩ = some (.int .i64 sb)) (by kernel_rfl) (HP.out) (fun hHeld => ?_)
  refine wpAnyH_take (i := 0) (v := ?_) rfl (by kernel_rfl) (by kernel_rfl) (by kernel_rfl) (fun _ _ _ h => h) (Or.inl ⟨by rfl, ?_⟩) hHeld ?_
  rotate_left
  · intro w hSw
    obtain ⟨s1, s2⟩ := hSw
    go_simp
    with_reducible rfl
  simp only [Act.put, List.getElem_toArray, List.getElem_cons_zero, List.setIfInBounds_toArray, List.set_cons_zero, List.set_cons_succ]
  refine wpAnyH_take (i := 1) (v := ?_) rfl (by kernel_rfl) (by kernel_rfl) (by kernel_rfl) (fun _ _ _ h => h) (Or.inl ⟨by rfl, ?_⟩) hHeld ?_
  rotate_left
  · intro w hSw
    obtain ⟨s1, s2⟩ := hSw
    go_simp
    with_reducible rfl
  simp only [Act.put, List.getElem_toArray, List.getElem_cons_zero, List.getElem_cons_succ, List.setIfInBounds_toArray, List.set_cons_zero, List.set_cons_succ]
  refine wpAnyH_take (i := 2) (v := ?_) rfl (by kernel_rfl) (by kernel_rfl) (by kernel_rfl) (fun _ _ _ h => h) (Or.inl ⟨by rfl, ?_⟩) hHeld ?_
  rotate_left
  · intro w hSw
    obtain ⟨s1, s2⟩ := hSw
    go_simp
    with_reducible rfl
  simp only [Act.put, List.getElem_toArray, List.getElem_cons_zero, List.getElem_cons_succ, List.setIfInBounds_toArray, List.set_cons_zero, List.set_cons_succ]
  refine wpAnyH_take (i := 3) (v := ?_) rfl (by kernel_rfl) (by kernel_rfl) (by kernel_rfl) (fun _ _ _ h => h) (Or.inl ⟨by rfl, ?_⟩) hHeld ?_
  rotate_left
  · intro w hSw
    obtain ⟨s1, s2⟩ := hSw
    go_simp
    with_reducible rfl
  simp only [Act.put, List.getElem_toArray, List.getElem_cons_zero, List.getElem_cons_succ, List.setIfInBounds_toArray, List.set_cons_zero, List.set_cons_succ]
  refine wpAnyH_take (i := 4) (v := ?_) rfl (by kernel_rfl) (by kernel_rfl) (by kernel_rfl) (fun _ _ _ h => h) (Or.inl ⟨by rfl, ?_⟩) hHeld ?_
  rotate_left
  · intro w hSw
    obtain ⟨s1, s2⟩ := hSw
    go_simp
    with_reducible rfl
  simp only [Act.put, List.getElem_toArray, List.getElem_cons_zero, List.getElem_cons_succ, List.setIfInBounds_toArray, List.set_cons_zero, List.set_cons_succ]
  refine wpAnyH_take (i := 6) (v := ?_) rfl (by kernel_rfl) (by kernel_rfl) (by kernel_rfl) (fun _ _ _ h => h) (Or.inl ⟨by rfl, ?_⟩) hHeld ?_
  rotate_left
  · intro w hSw
    obtain ⟨s1, s2⟩ := hSw
    go_simp
    with_reducible rfl
  simp only [Act.put, List.getElem_toArray, List.getElem_cons_zero, List.getElem_cons_succ, List.setIfInBounds_toArray, List.set_cons_zero, List.set_cons_succ]
  refine wpAnyH_take (i := 7) (v := ?_) rfl (by kernel_rfl) (by kernel_rfl) (by kernel_rfl) (fun _ _ _ h => h) (Or.inl ⟨by rfl, ?_⟩) hHeld ?_
  rotate_left
  · intro w hSw
    obtain ⟨s1, s2⟩ := hSw
    go_simp
    with_reducible rfl
  simp only [Act.put, List.getElem_toArray, List.getElem_cons_zero, List.getElem_cons_succ, List.setIfInBounds_toArray, List.set_cons_zero, List.set_cons_succ]
  refine wpAnyH_take (i := 8) (v := ?_) rfl (by kernel_rfl) (by kernel_rfl) (by kernel_rfl) (fun _ _ _ h => h) (Or.inl ⟨by rfl, ?_⟩) hHeld ?_
  rotate_left
  · intro w hSw
    obtain ⟨s1, s2⟩ := hSw
    go_simp
    with_reducible rfl
  simp only [Act.put, List.getElem_toArray, List.getElem_cons_zero, List.getElem_cons_succ, List.setIfInBounds_toArray, List.set_cons_zero, List.set_cons_succ]
  refine wpAnyH_take (i := 9) (v := ?_) rfl (by kernel_rfl) (by kernel_rfl) (by kernel_rfl) (fun _ _ _ h => h) (Or.inl ⟨by rfl, ?_⟩) hHeld ?_
  rotate_left
  · intro w hSw
    obtain ⟨s1, s2⟩ := hSw
    go_simp
    with_reducible rfl
  simp only [Act.put, List.getElem_toArray, List.getElem_cons_zero, List.getElem_cons_succ, List.setIfInBounds_toArray, List.set_cons_zero, List.set_cons_succ]
  refine wpAnyH_take (i := 10) (v := ?_) rfl (by kernel_rfl) (by kernel_rfl) (by kernel_rfl) (fun _ _ _ h => h) (Or.inl ⟨by rfl, ?_⟩) hHeld ?_
  rotate_left
  · intro w hSw
    obtain ⟨s1, s2⟩ := hSw
    go_simp
    with_reducible rfl
  simp only [Act.put, List.getElem_toArray, List.getElem_cons_zero, List.getElem_cons_succ, List.setIfInBounds_toArray, List.set_cons_zero, List.set_cons_succ]
  refine wpAnyH_ready (rs := [5]) (by kernel_rfl) (by simp) ?_
  refine AllReadyH.cons rfl (fun K hK => ?_) AllReadyH.nil
  go_simp
  go_at_call 14
  refine (HQu.out _ HB.out).mono ?_
  rintro e w4 ⟨v, rfl, ⟨ma, mcap, rfl, mrow, -⟩, b1⟩
  have HM := Lib.hid mrow
  clear mrow
  go_wp2_with fail
  refine hK.out _ _ ((And.intro (cell_keep HP.out.1 b1) (cell_keep HP.out.2 b1))) (fun hHeld => ?_)
  clear hK K
  replace HL := Lib.hid (row_keep HL.out b1)
  replace HP := Lib.hid (And.intro (cell_keep HP.out.1 b1) (cell_keep HP.out.2 b1))
  replace HB := Lib.hid (bthen HB.out b1)
  clear b1
  refine wpAnyH_ready (rs := [11]) (by kernel_rfl) (by simp) ?_
  refine AllReadyH.cons rfl (fun K hK => ?_) AllReadyH.nil
  go_simp
  go_at_call 34
  refine (rquery8_any (HRK.out _ HB.out) HBd.out sa sb).mono ?_
  rintro e w5 ⟨v, rfl, ⟨na, ncap, rfl, mrow, -⟩, b1⟩
  have HM2 := Lib.hid mrow
  clear mrow
  go_wp2_with fail
  refine hK.out _ _ ((And.intro (cell_keep HP.out.1 b1) (cell_keep HP.out.2 b1))) (fun hHeld => ?_)
  clear hK K
  replace HL := Lib.hid (row_keep HL.out b1)
  replace HP := Lib.hid (And.intro (cell_keep HP.out.1 b1) (cell_keep HP.out.2 b1))
  replace HB := Lib.hid (bthen HB.out b1)
  replace HM := Lib.hid (row_keep HM.out b1)
  clear b1
  refine wpAnyH_ready (rs := [12]) (by kernel_rfl) (by simp) ?_
  refine AllReadyH.cons rfl (fun K hK => ?_) AllReadyH.nil
  go_simp
  go_at_call 25
  refine (psame_yes HM.out HM2.out).mono ?_
  rintro e w6 ⟨rfl, b1⟩
  go_wp2_with fail
  refine hK.out _ _ ((And.intro (cell_keep HP.out.1 b1) (cell_keep HP.out.2 b1))) (fun hHeld => ?_)
  clear hK K
  replace HL := Lib.hid (row_keep HL.out b1)
  replace HP := Lib.hid (And.intro (cell_keep HP.out.1 b1) (cell_keep HP.out.2 b1))
  replace HB := Lib.hid (bthen HB.out b1)
  clear b1 HM HM2
  refine wpAnyH_take (i := 13) (v := ?_) rfl (by kernel_rfl) (by kernel_rfl) (by kernel_rfl) (fun _ _ _ h => h) (Or.inl ⟨by rfl, ?_⟩) hHeld ?_
  rotate_left
  · intro w hSw
    obtain ⟨s1, s2⟩ := hSw
    go_simp
    with_reducible rfl
  simp only [Act.put, List.getElem_toArray, List.getElem_cons_zero, List.getElem_cons_succ, List.setIfInBounds_toArray, List.set_cons_zero, List.set_cons_succ]
  refine wpAnyH_done (by kernel_rfl) ?_ _
  clear hHeld hpl
  refine fin (fun W => Row W la n (alS S) ∧ Below w.heap.size w W) ⟨HL.out, HB.out⟩ ?_
  clear HL HB HP
  rintro W6 ⟨hl, hb⟩
  have HL := Lib.hid hl
  have HB := Lib.hid hb
  clear hl hb
  go_wp2_with fail
  refine (HCh.out _ HB.out).mono ?_
  rintro e wHCh ⟨v, rfl, ⟨ma, mcap, rfl, mrow, -⟩, b1⟩
  have HM := Lib.hid mrow
  replace HL := Lib.hid (row_keep HL.out b1)
  replace HB := Lib.hid (bthen HB.out b1)
  clear mrow b1
  go_wp2_with fail
  refine (rchanged8_any (HRK.out _ HB.out) HBd.out since).mono ?_
  rintro e vHCh ⟨v, rfl, ⟨na, ncap, rfl, mrow, -⟩, b1⟩
  have HM2 := Lib.hid mrow
  replace HM := Lib.hid (row_keep HM.out b1)
  replace HL := Lib.hid (row_keep HL.out b1)
  replace HB := Lib.hid (bthen HB.out b1)
  clear mrow b1
  go_wp2_with fail
  refine (psame_yes HM.out HM2.out).mono ?_
  rintro e uHCh ⟨rfl, b1⟩
  replace HL := Lib.hid (row_keep HL.out b1)
  replace HB := Lib.hid (bthen HB.out b1)
  clear HM HM2 b1
  go_wp2_with fail
  refine (HGo.out _ HB.out).mono ?_
  rintro e wHGo ⟨v, rfl, ⟨ma, mcap, rfl, mrow, -⟩, b1⟩
  have HM := Lib.hid mrow
  replace HL := Lib.hid (row_keep HL.out b1)
  replace HB := Lib.hid (bthen HB.out b1)
  clear mrow b1
  go_wp2_with fail
  refine (rgone8_any (HRK.out _ HB.out) HBd.out since).mono ?_
  rintro e vHGo ⟨v, rfl, ⟨na, ncap, rfl, mrow, -⟩, b1⟩
  have HM2 := Lib.hid mrow
  replace HM := Lib.hid (row_keep HM.out b1)
  replace HL := Lib.hid (row_keep HL.out b1)
  replace HB := Lib.hid (bthen HB.out b1)
  clear mrow b1
  go_wp2_with fail
  refine (psame_yes HM.out HM2.out).mono ?_
  rintro e uHGo ⟨rfl, b1⟩
  replace HL := Lib.hid (row_keep HL.out b1)
  replace HB := Lib.hid (bthen HB.out b1)
  clear HM HM2 b1
  go_upto_region 6 with fail
  refine fin (fun W => Row W la n (alS S) ∧ Below w.heap.size w W) ⟨HL.out, HB.out⟩ ?_
  clear HL HB
  rintro W7 ⟨hl, hb⟩
  have hdr : Below W7.heap.size W7 W7.drew := ⟨rfl, rfl, rfl, Nat.le_refl _, fun _ _ => rfl⟩
  have HL := Lib.hid (row_keep hl hdr)
  have HB := Lib.hid (bthen hb hdr)
  have hgr := (rnext8 (HRK.out _ hb)).1.2.2
  have HNow : Hid (∀ u, Below w.heap.size w u → u.cell? ⟨gr, 577, none⟩ = some (.int .i64 S.now)) := Lib.hid (fun u k => (rnext8 (HRK.out _ k)).1.1)
  obtain ⟨nw, hnw⟩ : ∃ nw, nw = S.now := ⟨_, rfl⟩
  rw [← hnw] at HNow HTi
  clear hl hb hdr hnw
  refine wp_region_held_drew (S := fun w' => w'.cell? ⟨gr, 577, none⟩ = some (.int .i64 nw)) (by kernel_rfl) (HNow.out _ HB.out) (fun hHeld => ?_)
  refine wpAnyH_take (i := 0) (v := ?_) rfl (by kernel_rfl) (by kernel_rfl) (by kernel_rfl) (fun _ _ _ h => h) (Or.inl ⟨by rfl, ?_⟩) hHeld ?_
  rotate_left
  · intro w hSw
    go_simp
    with_reducible rfl
  simp only [Act.put, List.getElem_toArray, List.getElem_cons_zero, List.setIfInBounds_toArray, List.set_cons_zero, List.set_cons_succ]
  refine wpAnyH_take (i := 1) (v := ?_) rfl (by kernel_rfl) (by kernel_rfl) (by kernel_rfl) (fun _ _ _ h => h) (Or.inl ⟨by rfl, ?_⟩) hHeld ?_
  rotate_left
  · intro w hSw
    go_simp
    with_reducible rfl
  simp only [Act.put, List.getElem_toArray, List.getElem_cons_zero, List.getElem_cons_succ, List.setIfInBounds_toArray, List.set_cons_zero, List.set_cons_succ]
  refine wpAnyH_take (i := 2) (v := ?_) rfl (by kernel_rfl) (by kernel_rfl) (by kernel_rfl) (fun _ _ _ h => h) (Or.inl ⟨by rfl, ?_⟩) hHeld ?_
  rotate_left
  · intro w hSw
    go_simp
    with_reducible rfl
  simp only [Act.put, List.getElem_toArray, List.getElem_cons_zero, List.getElem_cons_succ, List.setIfInBounds_toArray, List.set_cons_zero, List.set_cons_succ]
  refine wpAnyH_take (i := 3) (v := ?_) rfl (by kernel_rfl) (by kernel_rfl) (by kernel_rfl) (fun _ _ _ h => h) (Or.inl ⟨by rfl, ?_⟩) hHeld ?_
  rotate_left
  · intro w hSw
    go_simp
    with_reducible rfl
  simp only [Act.put, List.getElem_toArray, List.getElem_cons_zero, List.getElem_cons_succ, List.setIfInBounds_toArray, List.set_cons_zero, List.set_cons_succ]
  refine wpAnyH_take (i := 4) (v := ?_) rfl (by kernel_rfl) (by kernel_rfl) (by kernel_rfl) (fun _ _ _ h => h) (Or.inl ⟨by rfl, ?_⟩) hHeld ?_
  rotate_left
  · intro w hSw
    go_simp
    with_reducible rfl
  simp only [Act.put, List.getElem_toArray, List.getElem_cons_zero, List.getElem_cons_succ, List.setIfInBounds_toArray, List.set_cons_zero, List.set_cons_succ]
  refine wpAnyH_take (i := 5) (v := ?_) rfl (by kernel_rfl) (by kernel_rfl) (by kernel_rfl) (fun _ _ _ h => h) (Or.inl ⟨by rfl, ?_⟩) hHeld ?_
  rotate_left
  · intro w hSw
    go_simp
    with_reducible rfl
  simp only [Act.put, List.getElem_toArray, List.getElem_cons_zero, List.getElem_cons_succ, List.setIfInBounds_toArray, List.set_cons_zero, List.set_cons_succ]
  refine wpAnyH_take (i := 6) (v := ?_) rfl (by kernel_rfl) (by kernel_rfl) (by kernel_rfl) (fun _ _ _ h => h) (Or.inl ⟨by rfl, ?_⟩) hHeld ?_
  rotate_left
  · intro w hSw
    go_simp
    with_reducible rfl
  simp only [Act.put, List.getElem_toArray, List.getElem_cons_zero, List.getElem_cons_succ, List.setIfInBounds_toArray, List.set_cons_zero, List.set_cons_succ]
  refine wpAnyH_take (i := 7) (v := ?_) rfl (by kernel_rfl) (by kernel_rfl) (by kernel_rfl) (fun _ _ _ h => h) (Or.inl ⟨by rfl, ?_⟩) hHeld ?_
  rotate_left
  · intro w hSw
    go_simp
    with_reducible rfl
  simp only [Act.put, List.getElem_toArray, List.getElem_cons_zero, List.getElem_cons_succ, List.setIfInBounds_toArray, List.set_cons_zero, List.set_cons_succ]
  refine wpAnyH_take (i := 8) (v := ?_) rfl (by kernel_rfl) (by kernel_rfl) (by kernel_rfl) (fun _ _ _ h => h) (Or.inl ⟨by rfl, ?_⟩) hHeld ?_
  rotate_left
  · intro w hSw
    go_simp
    with_reducible rfl
  simp only [Act.put, List.getElem_toArray, List.getElem_cons_zero, List.getElem_cons_succ, List.setIfInBounds_toArray, List.set_cons_zero, List.set_cons_succ]
  refine wpAnyH_take (i := 9) (v := ?_) rfl (by kernel_rfl) (by kernel_rfl) (by kernel_rfl) (fun _ _ _ h => h) (Or.inl ⟨by rfl, ?_⟩) hHeld ?_
  rotate_left
  · intro w hSw
    go_simp
    with_reducible rfl
  simp only [Act.put, List.getElem_toArray, List.getElem_cons_zero, List.getElem_cons_succ, List.setIfInBounds_toArray, List.set_cons_zero, List.set_cons_succ]
  refine wpAnyH_take (i := 10) (v := ?_) rfl (by kernel_rfl) (by kernel_rfl) (by kernel_rfl) (fun _ _ _ h => h) (Or.inl ⟨by rfl, ?_⟩) hHeld ?_
  rotate_left
  · intro w hSw
    go_simp
    with_reducible rfl
  simp only [Act.put, List.getElem_toArray, List.getElem_cons_zero, List.getElem_cons_succ, List.setIfInBounds_toArray, List.set_cons_zero, List.set_cons_succ]
  refine wpAnyH_take (i := 11) (v := ?_) rfl (by kernel_rfl) (by kernel_rfl) (by kernel_rfl) (fun _ _ _ h => h) (Or.inl ⟨by rfl, ?_⟩) hHeld ?_
  rotate_left
  · intro w hSw
    go_simp
    with_reducible rfl
  simp only [Act.put, List.getElem_toArray, List.getElem_cons_zero, List.getElem_cons_succ, List.setIfInBounds_toArray, List.set_cons_zero, List.set_cons_succ]
  refine wpAnyH_take (i := 12) (v := ?_) rfl (by kernel_rfl) (by kernel_rfl) (by kernel_rfl) (fun _ _ _ h => h) (Or.inl ⟨by rfl, ?_⟩) hHeld ?_
  rotate_left
  · intro w hSw
    go_simp
    with_reducible rfl
  simp only [Act.put, List.getElem_toArray, List.getElem_cons_zero, List.getElem_cons_succ, List.setIfInBounds_toArray, List.set_cons_zero, List.set_cons_succ]
  refine wpAnyH_take (i := 13) (v := ?_) rfl (by kernel_rfl) (by kernel_rfl) (by kernel_rfl) (fun _ _ _ h => h) (Or.inl ⟨by rfl, ?_⟩) hHeld ?_
  rotate_left
  · intro w hSw
    go_simp
    with_reducible rfl
  simp only [Act.put, List.getElem_toArray, List.getElem_cons_zero, List.getElem_cons_succ, List.setIfInBounds_toArray, List.set_cons_zero, List.set_cons_succ]
  refine wpAnyH_take (i := 14) (v := ?_) rfl (by kernel_rfl) (by kernel_rfl) (by kernel_rfl) (fun _ _ _ h => h) (Or.inl ⟨by rfl, ?_⟩) hHeld ?_
  rotate_left
  · intro w hSw
    go_simp
    with_reducible rfl
  simp only [Act.put, List.getElem_toArray, List.getElem_cons_zero, List.getElem_cons_succ, List.setIfInBounds_toArray, List.set_cons_zero, List.set_cons_succ]
  refine wpAnyH_take (i := 15) (v := ?_) rfl (by kernel_rfl) (by kernel_rfl) (by kernel_rfl) (fun _ _ _ h => h) (Or.inl ⟨by rfl, ?_⟩) hHeld ?_
  rotate_left
  · intro w hSw
    go_simp
    with_reducible rfl
  simp only [Act.put, List.getElem_toArray, List.getElem_cons_zero, List.getElem_cons_succ, List.setIfInBounds_toArray, List.set_cons_zero, List.set_cons_succ]
  refine wpAnyH_take (i := 17) (v := ?_) rfl (by kernel_rfl) (by kernel_rfl) (by kernel_rfl) (fun _ _ _ h => h) (Or.inl ⟨by rfl, ?_⟩) hHeld ?_
  rotate_left
  · intro w hSw
    go_simp
    with_reducible rfl
  simp only [Act.put, List.getElem_toArray, List.getElem_cons_zero, List.getElem_cons_succ, List.setIfInBounds_toArray, List.set_cons_zero, List.set_cons_succ]
  refine wpAnyH_take (i := 18) (v := ?_) rfl (by kernel_rfl) (by kernel_rfl) (by kernel_rfl) (fun _ _ _ h => h) (Or.inl ⟨by rfl, ?_⟩) hHeld ?_
  rotate_left
  · intro w hSw
    go_simp
    with_reducible rfl
  simp only [Act.put, List.getElem_toArray, List.getElem_cons_zero, List.getElem_cons_succ, List.setIfInBounds_toArray, List.set_cons_zero, List.set_cons_succ]
  refine wpAnyH_take (i := 19) (v := ?_) rfl (by kernel_rfl) (by kernel_rfl) (by kernel_rfl) (fun _ _ _ h => h) (Or.inl ⟨by rfl, ?_⟩) hHeld ?_
  rotate_left
  · intro w hSw
    go_simp
    with_reducible rfl
  simp only [Act.put, List.getElem_toArray, List.getElem_cons_zero, List.getElem_cons_succ, List.setIfInBounds_toArray, List.set_cons_zero, List.set_cons_succ]
  refine wpAnyH_take (i := 20) (v := ?_) rfl (by kernel_rfl) (by kernel_rfl) (by kernel_rfl) (fun _ _ _ h => h) (Or.inl ⟨by rfl, ?_⟩) hHeld ?_
  rotate_left
  · intro w hSw
    go_simp
    with_reducible rfl
  simp only [Act.put, List.getElem_toArray, List.getElem_cons_zero, List.getElem_cons_succ, List.setIfInBounds_toArray, List.set_cons_zero, List.set_cons_succ]
  refine wpAnyH_ready (rs := [16]) (by kernel_rfl) (by simp) ?_
  refine AllReadyH.cons rfl (fun K hK => ?_) AllReadyH.nil
  go_simp
  go_at_call 17
  refine (HTi.out _ HB.out).mono ?_
  rintro e w8 ⟨rfl, b1⟩
  go_wp2_with fail
  refine hK.out _ _ (HNow.out _ (bthen HB.out b1)) (fun hHeld => ?_)
  clear hK K
  replace HL := Lib.hid (row_keep HL.out b1)
  replace HB := Lib.hid (bthen HB.out b1)
  clear b1
  refine wpAnyH_take (i := 21) (v := ?_) rfl (by kernel_rfl) (by kernel_rfl) (by kernel_rfl) (fun _ _ _ h => h) (Or.inl ⟨by rfl, ?_⟩) hHeld ?_
  rotate_left
  · intro w hSw
    go_simp
    with_reducible rfl
  simp only [Act.put, List.getElem_toArray, List.getElem_cons_zero, List.getElem_cons_succ, List.setIfInBounds_toArray, List.set_cons_zero, List.set_cons_succ]
  refine wpAnyH_take (i := 22) (v := ?_) rfl (by kernel_rfl) (by kernel_rfl) (by kernel_rfl) (fun _ _ _ h => h) (Or.inl ⟨by rfl, ?_⟩) hHeld ?_
  rotate_left
  · intro w hSw
    go_simp
    with_reducible rfl
  simp only [Act.put, List.getElem_toArray, List.getElem_cons_zero, List.getElem_cons_succ, List.setIfInBounds_toArray, List.set_cons_zero, List.set_cons_succ]
  refine wpAnyH_done (by kernel_rfl) ?_ _
  clear hHeld hgr HNow HTi
  refine fin (fun W => Row W la n (alS S) ∧ Below w.heap.size w W) ⟨HL.out, HB.out⟩ ?_
  clear HL HB
  rintro W8 ⟨hl, hb⟩
  have HL := Lib.hid hl
  have HB0 := Lib.hid hb
  clear hl hb
  go_wp2
  go_loopw [14, 15, 16, 17, 18] (fun v14 _ _ _ _ wq => ∃ j : Nat, j ≤ n ∧ v14 = .int .i64 j ∧ Below W8.heap.size W8 wq) (fun v14 _ _ _ _ _ => n - (intOf v14).toNat)
  case atStart => exact ⟨0, by omega, rfl, Below.refl _ _⟩
  case round =>
    obtain ⟨j, hj, rfl, hb⟩ := hrel
    have HB := Lib.hid hb
    clear hb
    by_cases hjn : j < n
    · have j0 : (0 : Int) ≤ (j : Int) := by omega
      have j1 : (j : Int) < (n : Int) := by omega
      obtain ⟨ab, aoff, y, rfl, hy, cy⟩ := row_at (row_keep HL.out HB.out) hjn
      have hab := World.block_lt_of_cell? _ _ cy
      have HCy := Lib.hid cy
      clear hy
      go_wp2_with fail
      refine (HGe.out _ y (bthen HB0.out HB.out)).mono ?_
      rintro e w8 ⟨Y, rfl, hY, b8⟩
      have HY := Lib.hid hY
      have HPX : Hid (PXs Y) := Lib.hid (by rw [hY]; exact ⟨pl_len _, pl_size _, pl_size' _, pl_one _⟩)
      have HEq : Hid (∀ w, (Op.equalIn 10000 44 (.agg Y.toArray) (.agg Y.toArray)).run Tryz.prog w = .ok true w) := Lib.hid (by rw [hY]; intro w; rw [eqT_run, eqT_self])
      replace HB := Lib.hid (bthen HB.out b8)
      replace HCy := Lib.hid (cell_keep HCy.out b8)
      clear hY b8 cy hab
      have K15 := Lib.hid (Blk.new w8 44 Z24.toArray)
      have HT15 : Hid ((w8.alloc (.cells Z24.toArray 44)).there w8.heap.size 0 Y.toArray.size) := Lib.hid (blk_there K15.out (by rw [List.size_toArray, HPX.out.1]; exact Nat.le_refl 24))
      have HBl : Hid (Below w8.heap.size w8 ((w8.alloc (.cells Z24.toArray 44)).setCells w8.heap.size 0 Y)) := Lib.hid (below_setCells Y (alloc_below _ _) (Nat.le_refl _))
      have L15 : Hid (Blk ((w8.alloc (.cells Z24.toArray 44)).setCells w8.heap.size 0 Y) w8.heap.size 44 Y.toArray ∧ ((w8.alloc (.cells Z24.toArray 44)).setCells w8.heap.size 0 Y).cell? ⟨ab, aoff + j, none⟩ = some (.int .i64 y) ∧ Below W8.heap.size W8 ((w8.alloc (.cells Z24.toArray 44)).setCells w8.heap.size 0 Y)) := Lib.hid ⟨by
        have := blk_setCells Y (o := 0) K15.out (by rw [HPX.out.1]; exact Nat.le_refl 24)
        rwa [splice_all (by rw [HPX.out.1]; rfl)] at this, cell_keep HCy.out HBl.out, bthen HB.out HBl.out⟩
      go_upto_region 12 with (refine wpList_store_mid rfl 44 (.tmp 15) (.tmp 90) rfl w8.heap.size 0 Y.toArray rfl rfl HT15.out HPX.out.2.2.1 HPX.out.2.2.2 ?_)
      refine fin (fun W => Blk W w8.heap.size 44 Y.toArray ∧ W.cell? ⟨ab, aoff + j, none⟩ = some (.int .i64 y) ∧ Below W8.heap.size W8 W) L15.out ?_
      obtain ⟨g15, hg15⟩ : ∃ g15, g15 = w8.heap.size := ⟨_, rfl⟩
      rw [← hg15]
      clear L15 HT15 K15 HBl HB hg15 HCy
      rintro W9 ⟨k15, cy, hb⟩
      have K15 := Lib.hid k15
      have HB := Lib.hid hb
      have hab := World.block_lt_of_cell? _ _ cy
      clear k15 hb
      go_wp2_with fail
      refine (HRG.out _ y (bthen HB0.out HB.out)).mono ?_
      rintro e w9 ⟨Y', rfl, hY', b8⟩
      rw [← HY.out] at hY'
      subst hY'
      replace HB := Lib.hid (bthen HB.out b8)
      replace K15 := Lib.hid (Blk.keep K15.out b8)
      clear b8 cy hab HY
      have K17 := Lib.hid (Blk.new w9 44 Z24.toArray)
      have HT17 : Hid ((w9.alloc (.cells Z24.toArray 44)).there w9.heap.size 0 Y'.toArray.size) := Lib.hid (blk_there K17.out (by rw [List.size_toArray, HPX.out.1]; exact Nat.le_refl 24))
      have HBl : Hid (Below w9.heap.size w9 ((w9.alloc (.cells Z24.toArray 44)).setCells w9.heap.size 0 Y')) := Lib.hid (below_setCells Y' (alloc_below _ _) (Nat.le_refl _))
      have L17 : Hid (Blk ((w9.alloc (.cells Z24.toArray 44)).setCells w9.heap.size 0 Y') w9.heap.size 44 Y'.toArray ∧ Blk ((w9.alloc (.cells Z24.toArray 44)).setCells w9.heap.size 0 Y') g15 44 Y'.toArray ∧ Below W8.heap.size W8 ((w9.alloc (.cells Z24.toArray 44)).setCells w9.heap.size 0 Y')) := Lib.hid ⟨by
        have := blk_setCells Y' (o := 0) K17.out (by rw [HPX.out.1]; exact Nat.le_refl 24)
        rwa [splice_all (by rw [HPX.out.1]; rfl)] at this, Blk.keep K15.out HBl.out, bthen HB.out HBl.out⟩
      go_upto_region 13 with (refine wpList_store_mid rfl 44 (.tmp 17) (.tmp 99) rfl w9.heap.size 0 Y'.toArray rfl rfl HT17.out HPX.out.2.2.1 HPX.out.2.2.2 ?_)
      refine fin (fun W => Blk W w9.heap.size 44 Y'.toArray ∧ Blk W g15 44 Y'.toArray ∧ Below W8.heap.size W8 W) L17.out ?_
      obtain ⟨g17, hg17⟩ : ∃ g17, g17 = w9.heap.size := ⟨_, rfl⟩
      rw [← hg17]
      clear L17 HT17 K17 HBl HB hg17 K15
      rintro W10 ⟨k17, k15, hb⟩
      have HB := Lib.hid hb
      have HR17 := Lib.hid (blk_whole k17)
      have HR15 := Lib.hid (blk_whole k15)
      have l17 := k17.lt
      have l15 := k15.lt
      clear k15 k17 hb
      have heq := HEq.out
      generalize getB S y = gb
      cases gb with
      | true =>
        go_wp2_with (first | (refine wpList_load_mid rfl 44 (.tmp 15) rfl g15 0 rfl Y' _ HR15.out Tryz.underlying44 rfl HPX.out.2.1 ?_) | (refine wpList_load_mid rfl 44 (.tmp 17) rfl g17 0 rfl Y' _ HR17.out Tryz.underlying44 rfl HPX.out.2.1 ?_))
        go_roundw
        case rel => exact ⟨j + 1, by omega, by go_num, HB.out⟩
        case measure => simp [intOf] <;> omega
      | false =>
        go_wp2_with (first | (refine wpList_load_mid rfl 44 (.tmp 15) rfl g15 0 rfl Y' _ HR15.out Tryz.underlying44 rfl HPX.out.2.1 ?_) | (refine wpList_load_mid rfl 44 (.tmp 17) rfl g17 0 rfl Y' _ HR17.out Tryz.underlying44 rfl HPX.out.2.1 ?_))
        go_roundw
        case rel => exact ⟨j + 1, by omega, by go_num, HB.out⟩
        case measure => simp [intOf] <;> omega
    · obtain rfl : j = n := by omega
      go_wp2
      go_ret
      exact ⟨rfl, bthen HB0.out HB.out⟩
end
end Go.Proofs.YtcpgkkphibhdfaaGreat
