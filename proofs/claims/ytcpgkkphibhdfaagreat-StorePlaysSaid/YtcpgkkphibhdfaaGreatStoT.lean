/-
  The reference's store: what its Despawn of layer 8 answers.
-/
import Derived.Test.YtcpgkkphibhdfaaGreatStoS
namespace Go.Proofs.YtcpgkkphibhdfaaGreat
open Go.RowKit

/-- a going more -/
theorem RS.gone8 {w W Wb w1 : World} {g gu n cap : Nat} {F : Nat → Prop} {S : St} {tv : Nat → Value} {cv gv : Value} {l : List (Int × Int)} (h : RS W g S tv cv gv) (hf : Fr w W F) (hn : ∀ b, foot8 g tv cv gv b → F b ∨ w.heap.size ≤ b) (hb : Below W.heap.size W Wb) (hg : Wb.grownBy w1 gv.ownBlock) (hc : ColM w1 (.slice (some ⟨gu, 0, none⟩) n cap) l) (hu : gv.ownBlock = some gu ∨ Wb.heap.size ≤ gu) :
    RS (w1.setCell ⟨g, 579, none⟩ (.slice (some ⟨gu, 0, none⟩) n cap)) g { S with go := l } tv cv (.slice (some ⟨gu, 0, none⟩) n cap) ∧ Fr w (w1.setCell ⟨g, 579, none⟩ (.slice (some ⟨gu, 0, none⟩) n cap)) F ∧ ∀ b, foot8 g tv cv (.slice (some ⟨gu, 0, none⟩) n cap) b → F b ∨ w.heap.size ≤ b := by
  have hgl := h.row.lt
  have k := h.keep hb
  have hne : ∀ b, (gv.ownBlock = some b → False) → b < Wb.heap.size → w1.heap[b]? = Wb.heap[b]? := fun b c hl => hg.block b hl (fun e => c e.symm)
  have hst : ∀ b, b ≠ g → (w1.setCell ⟨g, 579, none⟩ (.slice (some ⟨gu, 0, none⟩) n cap)).heap[b]? = w1.heap[b]? := fun b c => by
    simp only [World.setCell, Array.getElem?_modify]
    rw [if_neg (fun e => c e.symm)]
  have hgug : gu ≠ g := fun e => by
    rcases hu with c | c
    · exact h.offG (e ▸ c)
    · have := hb.size; omega
  have hT : ∀ i, i < 32 → ∀ b, (tv i).ownBlock = some b → (w1.setCell ⟨g, 579, none⟩ (.slice (some ⟨gu, 0, none⟩) n cap)).heap[b]? = Wb.heap[b]? := fun i hi b e => by
    rw [hst b (fun c => h.offT i hi (c ▸ e))]
    exact hne b (fun c => h.sepT i hi b c e) (World.ownsRow.lt (k.tab i hi) b e).2
  have hCb : ∀ b, cv.ownBlock = some b → (w1.setCell ⟨g, 579, none⟩ (.slice (some ⟨gu, 0, none⟩) n cap)).heap[b]? = Wb.heap[b]? := fun b e => by
    rw [hst b (fun c => h.offC (c ▸ e))]
    exact hne b (fun c => h.sepC b c e) (World.ownsRow.lt k.chs b e).2
  have row1 : w1.rowIs g 89 580 (sF S tv cv gv) := k.row.of_block (hne g (fun c => h.offG c) k.row.lt)
  refine ⟨⟨(row1.set 579 _).congr (fun j hj => upv_go _ j hj), fun i hi => ColX.same (k.tab i hi) (hT i hi), ColX.same k.chs hCb, ColX.same hc (fun b e => hst b (fun c => ?_)), h.offT, h.offC, fun e => ?_, fun i hi b e c => ?_, fun b e c => ?_⟩, ?_, ?_⟩
  · have : gu = b := by simpa [Value.ownBlock] using e
    omega
  · have : gu = g := by simpa [Value.ownBlock] using e
    exact hgug this
  · have e' : gu = b := by simpa [Value.ownBlock] using e
    rcases hu with d | d
    · exact h.sepT i hi b (e' ▸ d) c
    · have := (World.ownsRow.lt (h.tab i hi) b c).2
      have := hb.size
      omega
  · have e' : gu = b := by simpa [Value.ownBlock] using e
    rcases hu with d | d
    · exact h.sepC b (e' ▸ d) c
    · have := (World.ownsRow.lt h.chs b c).2
      have := hb.size
      omega
  · have hgF : F g ∨ w.heap.size ≤ g := hn g (Or.inl rfl)
    refine ⟨hg.os.trans (hb.os.trans hf.1), hg.tape.trans (hb.tape.trans hf.2.1), hg.output.trans (hb.output.trans hf.2.2.1), Nat.le_trans (Nat.le_trans hf.2.2.2.1 hb.size) (by simpa [World.setCell] using hg.size), fun b hl hnf => ?_⟩
    have hbl : b < W.heap.size := Nat.lt_of_lt_of_le hl hf.2.2.2.1
    rw [hst b (fun c => hgF.elim (fun d => hnf (c ▸ d)) (fun d => by omega)), hne b (fun c => (hn b (Or.inr (Or.inr (Or.inr c)))).elim hnf (fun d => by omega)) (Nat.lt_of_lt_of_le hbl hb.size), hb.block b hbl]
    exact hf.2.2.2.2 b hl hnf
  · rintro b (rfl | e | e | e)
    · exact hn _ (Or.inl rfl)
    · exact hn b (Or.inr (Or.inl e))
    · exact hn b (Or.inr (Or.inr (Or.inl e)))
    · have e' : gu = b := by simpa [Value.ownBlock] using e
      rcases hu with d | d
      · exact hn b (Or.inr (Or.inr (Or.inr (e' ▸ d))))
      · have := hb.size
        have := hf.2.2.2.1
        exact Or.inr (by omega)
theorem bs_mark (x y : Int) (W : World) : (Instr.buildSlice 87 1 #[(0, .agg #[.int .i64 x, .int .i64 y])]).run Tryz.prog W = .ok (.slice (some ⟨W.heap.size, 0, none⟩) 1 1) (W.alloc (.cells ([.int .i64 x, .int .i64 y] : List Value).toArray 125)) := by kernel_rfl

set_option maxHeartbeats 8000000 in
set_option maxRecDepth 100000 in
theorem rdespawn8_any {w : World} {g : Nat} {F : Nat → Prop} {S : St} (h0 : RB w g F S) (hW : WS S) (hB : Bd S 1000) (id : Int) :
    Calls Tryz.prog 29 #[.pointer (some ⟨g, 0, none⟩), .int .i64 id] w fun e w' => e = .returned (.int .i64 (deE S id)) ∧ Chg RB w w' g F (deS S id) := by
  have HRB := Lib.hid h0
  obtain ⟨tv, cv, gv, h, hF⟩ := h0
  have hg := h.row.lt
  have HAt : Hid (Calls Tryz.prog 57 #[.pointer (some ⟨g, 0, none⟩), .int .i64 id] w fun e w' => e = .returned (.tuple #[.int .i64 (atI S id), .int .i64 (atR S id)]) ∧ w = w') := Lib.hid (rat_any h hB.2.2.1 id)
  cases ha : atS S id with
  | none =>
    have e1 : atI S id = -1 := by unfold atI; rw [ha]
    have e2 : atR S id = -1 := by unfold atR; rw [ha]
    have e3 : getB S id = false := by unfold getB; rw [ha]; rfl
    have e4 : Hid (deE S id = 4) := Lib.hid (by unfold deE; rw [e3]; rfl)
    have e5 : Hid (deS S id = S) := Lib.hid (by unfold deS; rw [ha])
    rw [e1, e2] at HAt
    clear e1 e2 e3 ha h hF hW hB
    go_enter Tryz.func29, Tryz.ntmps29
    go_wp2_with fail
    refine HAt.out.mono ?_
    rintro e w1 ⟨rfl, rfl⟩
    go_wp2
    go_ret
    exact ⟨by rw [e4.out]; rfl, by rw [e5.out]; exact Chg.still HRB.out (Below.refl _ _)⟩
  | some i =>
    obtain ⟨i32, hhi⟩ := at_some ha
    obtain ⟨row, hrow⟩ : ∃ row, row = findI (S.T i) id := ⟨_, rfl⟩
    have e1 : atI S id = (i : Int) := by unfold atI; rw [ha]
    have e2 : atR S id = row := by unfold atR; rw [ha, hrow]
    have e3 : getB S id = true := by unfold getB; rw [ha]; rfl
    have e4 : Hid (deE S id = 0) := Lib.hid (by unfold deE; rw [e3]; rfl)
    have e5 : Hid (deS S id = { S with T := upf S.T i (tcuR (S.T i) row), G := drG S.G S.L id, L := drL S.G S.L id, go := S.go ++ [(id, S.now)] }) := Lib.hid (by unfold deS; rw [ha, hrow])
    rw [e1, e2] at HAt
    have HCu : Hid (Calls Tryz.prog 58 #[.pointer (some ⟨g, 513 + i * 2, none⟩), .int .i64 row] w fun e w' => (∃ z1 z2, e = .returned (.tuple #[.int .i64 z1, .int .i64 z2])) ∧ TU w w' g (513 + i * 2) 89 580 (sF S tv cv gv) (tcuR (S.T i) row)) := Lib.hid ((rcut_any (h.view i32 (hB.2.2.1 i i32)) row).mono fun _ _ q => ⟨⟨_, _, q.1⟩, q.2⟩)
    have HH := Lib.hid h
    have HFF := Lib.hid hF
    have HPO := Lib.hid hW.ok
    have hgl := hB.2.1
    have i0 : (0 : Int) ≤ (i : Int) := by omega
    have i1 : (i : Int) < 32 := by omega
    clear e1 e2 e3 ha h hF hW hB hhi hrow
    go_enter Tryz.func29, Tryz.ntmps29
    go_wp2_with fail
    refine HAt.out.mono ?_
    rintro e w1 ⟨rfl, rfl⟩
    go_wp2_with fail
    refine HCu.out.mono ?_
    rintro e w2 ⟨⟨z1, z2, rfl⟩, tu⟩
    obtain ⟨tv2, rs2, fr2, new2⟩ := HH.out.next (F := F) ⟨rfl, rfl, rfl, Nat.le_refl _, fun _ _ _ => rfl⟩ (fun b hb => Or.inl ((HFF.out b).2 hb)) i32 tu
    have HR2 := Lib.hid rs2
    have HF2 := Lib.hid (And.intro fr2 new2)
    have hg2 : g < w2.heap.size := rs2.row.lt
    clear tu rs2 fr2 new2 HCu
    have HDr : Hid (Calls Tryz.prog 59 #[.pointer (some ⟨g, 0, none⟩), .int .i64 id] w2 fun e w' => (∃ z, e = .returned (.bool z)) ∧ w'.rowIs g 89 580 (poolX (stE tv2 S.now cv gv) S.room (drG S.G S.L id) (drL S.G S.L id)) ∧ w2.grownBy w' (some g)) := Lib.hid ((pdrop8 (E := stE tv2 S.now cv gv) (t := 89) (N := 580) (by omega) g S.room S.G S.L id w2 HPO.out.gen HR2.out.row).mono fun _ _ q => ⟨⟨_, q.1⟩, q.2⟩)
    go_wp2_with fail
    refine HDr.out.mono ?_
    rintro e w3 ⟨⟨z3, rfl⟩, hr3, hg3⟩
    have HR3 := Lib.hid (HR2.out.pool hr3 hg3)
    have HF3 : Hid (Fr w w3 F) := Lib.hid (HF2.out.1.two HR3.out.2.1 HF2.out.2)
    clear hr3 hg3 HDr
    obtain ⟨rs3, -, -⟩ := HR3.out
    have HD := Lib.hid rs3.drew
    have c577 : w3.cell? ⟨g, 577, none⟩ = some (.int .i64 S.now) := by rw [rs3.row.cell (by omega)]; rfl
    have c579 : w3.cell? ⟨g, 579, none⟩ = some gv := by rw [rs3.row.cell (by omega)]; rfl
    have hg3 : g < w3.heap.size := rs3.row.lt
    obtain ⟨nw, hnw⟩ : ∃ nw, nw = S.now := ⟨_, rfl⟩
    have HNw := Lib.hid hnw
    rw [← hnw] at c577
    have CW := Lib.hid (And.intro c577 c579)
    have CB : Hid ((w3.drew.alloc (.cells ([.int .i64 id, .int .i64 nw] : List Value).toArray 125)).cell? ⟨g, 579, none⟩ = some gv ∧ (w3.drew.alloc (.cells ([.int .i64 id, .int .i64 nw] : List Value).toArray 125)).cell? ⟨g, 577, none⟩ = some (.int .i64 nw)) := Lib.hid ⟨cell_keep (w := w3.drew) c579 (alloc_below _ _), cell_keep (w := w3.drew) c577 (alloc_below _ _)⟩
    clear rs3 hnw c577 c579
    go_upto_region 6 with fail
    refine wp_region_held_drew (S := fun w' => w'.cell? ⟨g, 577, none⟩ = some (.int .i64 nw)) (by kernel_rfl) (CW.out.1) (fun hHeld => ?_)
    refine wpAnyH_take (i := 0) (v := ?_) rfl (by kernel_rfl) (by kernel_rfl) (by kernel_rfl) (fun _ _ _ h => h) (Or.inl ⟨by rfl, ?_⟩) hHeld ?_
    rotate_left
    · intro w hSw
      go_simp
      with_reducible rfl
    simp only [Act.put, List.getElem_toArray, List.getElem_cons_zero, List.setIfInBounds_toArray, List.set_cons_zero, List.set_cons_succ]
    refine wpAnyH_take (i := 1) (v := ?_) rfl (by kernel_rfl) (by kernel_rfl) (by kernel_rfl) (fun _ _ _ h => h) (Or.inl ⟨by rfl, ?_⟩) hHeld ?_
    rotate_left
    · intro w hSw
      go_simp
      with_reducible rfl
    simp only [Act.put, List.getElem_toArray, List.getElem_cons_zero, List.getElem_cons_succ, List.setIfInBounds_toArray, List.set_cons_zero, List.set_cons_succ]
    refine wpAnyH_take (i := 2) (v := ?_) rfl (by kernel_rfl) (by kernel_rfl) (by kernel_rfl) (fun _ _ _ h => h) (Or.inl ⟨by rfl, ?_⟩) hHeld ?_
    rotate_left
    · intro w hSw
      go_simp
      with_reducible rfl
    simp only [Act.put, List.getElem_toArray, List.getElem_cons_zero, List.getElem_cons_succ, List.setIfInBounds_toArray, List.set_cons_zero, List.set_cons_succ]
    refine wpAnyH_take (i := 3) (v := ?_) rfl (by kernel_rfl) (by kernel_rfl) (by kernel_rfl) (fun _ _ _ h => h) (Or.inl ⟨by rfl, ?_⟩) hHeld ?_
    rotate_left
    · intro w hSw
      go_simp
      with_reducible rfl
    simp only [Act.put, List.getElem_toArray, List.getElem_cons_zero, List.getElem_cons_succ, List.setIfInBounds_toArray, List.set_cons_zero, List.set_cons_succ]
    refine wpAnyH_take (i := 5) (v := ?_) rfl (by kernel_rfl) (by kernel_rfl) (by kernel_rfl) (fun _ _ _ h => h) (Or.inl ⟨by rfl, ?_⟩) hHeld ?_
    rotate_left
    · intro w hSw
      go_simp
      with_reducible rfl
    simp only [Act.put, List.getElem_toArray, List.getElem_cons_zero, List.getElem_cons_succ, List.setIfInBounds_toArray, List.set_cons_zero, List.set_cons_succ]
    refine wpAnyH_take (i := 6) (v := ?_) rfl (by kernel_rfl) (by kernel_rfl) (by kernel_rfl) (fun _ _ _ h => h) (Or.inl ⟨by rfl, ?_⟩) hHeld ?_
    rotate_left
    · intro w hSw
      go_simp
      with_reducible rfl
    simp only [Act.put, List.getElem_toArray, List.getElem_cons_zero, List.getElem_cons_succ, List.setIfInBounds_toArray, List.set_cons_zero, List.set_cons_succ]
    refine wpAnyH_take (i := 7) (v := ?_) rfl (by kernel_rfl) (by kernel_rfl) (by kernel_rfl) (fun _ _ _ h => h) (Or.inl ⟨by rfl, ?_⟩) hHeld ?_
    rotate_left
    · intro w hSw
      go_simp
      with_reducible rfl
    simp only [Act.put, List.getElem_toArray, List.getElem_cons_zero, List.getElem_cons_succ, List.setIfInBounds_toArray, List.set_cons_zero, List.set_cons_succ]
    refine wpAnyH_take (i := 8) (v := ?_) rfl (by kernel_rfl) (by kernel_rfl) (by kernel_rfl) (fun _ _ _ h => h) (Or.inl ⟨by rfl, ?_⟩) hHeld ?_
    rotate_left
    · intro w hSw
      go_simp
      with_reducible rfl
    simp only [Act.put, List.getElem_toArray, List.getElem_cons_zero, List.getElem_cons_succ, List.setIfInBounds_toArray, List.set_cons_zero, List.set_cons_succ]
    refine wpAnyH_take (i := 9) (v := ?_) rfl (by kernel_rfl) (by kernel_rfl) (by kernel_rfl) (fun _ _ _ h => h) (Or.inl ⟨by rfl, ?_⟩) hHeld ?_
    rotate_left
    · intro w hSw
      go_simp
      with_reducible rfl
    simp only [Act.put, List.getElem_toArray, List.getElem_cons_zero, List.getElem_cons_succ, List.setIfInBounds_toArray, List.set_cons_zero, List.set_cons_succ]
    refine wpAnyH_take (i := 10) (v := ?_) rfl (by kernel_rfl) (by kernel_rfl) (by kernel_rfl) (fun _ _ _ h => h) (Or.inl ⟨by rfl, ?_⟩) hHeld ?_
    rotate_left
    · intro w hSw
      go_simp
      with_reducible rfl
    simp only [Act.put, List.getElem_toArray, List.getElem_cons_zero, List.getElem_cons_succ, List.setIfInBounds_toArray, List.set_cons_zero, List.set_cons_succ]
    refine wpAnyH_pair (i := 4) (j := 11) (v := gv) (u := .slice (some ⟨w3.heap.size, 0, none⟩) 1 1) (w' := w3.drew.alloc (.cells ([.int .i64 id, .int .i64 nw] : List Value).toArray 125)) rfl rfl (by kernel_rfl) (by kernel_rfl) (by kernel_rfl) (by rfl) (by rfl) (by rfl) (by rfl) (exec_cell rfl rfl Tryz.underlying87 CW.out.2) (exec_bs rfl rfl (bs_mark id nw _)) (exec_bs rfl rfl (bs_mark id nw _)) (exec_cell rfl rfl Tryz.underlying87 CB.out.1) rfl hHeld CB.out.2 ?_
    simp only [Act.put, List.getElem_toArray, List.getElem_cons_zero, List.getElem_cons_succ, List.setIfInBounds_toArray, List.set_cons_zero, List.set_cons_succ]
    clear hHeld CW CB
    have hmm : (S.go.map mk8).length ≤ 2000 := by rw [List.length_map]; omega
    refine wpAnyH_ready (rs := [12]) (by kernel_rfl) (by simp) ?_
    refine AllReadyH.cons rfl (fun K hK => ?_) AllReadyH.nil
    rw [if_pos (by rfl)]
    refine wp_appC (.tmp 31) (.tmp 38) 87 125 2 16 (.agg #[.int .i64 0, .int .i64 0]) cM rfl Tryz.underlying87 minfo rfl (by decide) (by decide) (fun _ => rfl) gv (S.go.map mk8) rfl ((HD.out.keep (alloc_below _ _)).gos) hmm (mk8 (id, nw)) [.int .i64 id, .int .i64 nw] rfl (mone id nw) w3.heap.size (Blk.new _ _ _) rfl ?_
    intro gu gcap w4 hc hgr hat
    have hc' : ColM w4 (.slice (some ⟨gu, 0, none⟩) ((S.go.map mk8).length + 1) gcap) (S.go ++ [(id, nw)]) := by
      show ColX w4 _ 2 cM _ ((S.go ++ [(id, nw)]).map mk8)
      rw [List.map_append]; exact hc
    generalize (S.go.map mk8).length + 1 = nn at hc' ⊢
    have HG := Lib.hid (HD.out.gone8 (F := F) HF3.out.drew HF2.out.2 (alloc_below _ _) hgr hc' hat)
    have HK : Hid (RS w4 g { S with T := upf S.T i (tcuR (S.T i) row), G := drG S.G S.L id, L := drL S.G S.L id } tv2 cv gv → True) := Lib.hid (fun _ => trivial)
    have hrow4 : w4.rowIs g 89 580 (sF { S with T := upf S.T i (tcuR (S.T i) row), G := drG S.G S.L id, L := drL S.G S.L id } tv2 cv gv) := (HD.out.keep (alloc_below _ _)).row.of_block (hgr.block g (by rw [World.size_alloc]; exact Nat.lt_succ_of_lt hg3) (fun e => HD.out.offG e.symm))
    have c4 : w4.cell? ⟨g, 577, none⟩ = some (.int .i64 nw) := by rw [hrow4.cell (by omega), HNw.out]; rfl
    have d4 : w4.cell? ⟨g, 579, none⟩ = some gv := by rw [hrow4.cell (by omega)]; rfl
    have f4 : w4.frozen? ⟨g, 579, none⟩ = false := hrow4.frozen _
    have hg4 : g < w4.heap.size := hrow4.lt
    clear hc hc' hgr hat HK hrow4
    refine hK.out _ _ c4 (fun hHeld => ?_)
    clear hK K
    simp only [Act.put, List.getElem_toArray, List.getElem_cons_zero, List.getElem_cons_succ, List.setIfInBounds_toArray, List.set_cons_zero, List.set_cons_succ]
    refine wpAnyH_take (i := 13) (v := ?_) rfl (by kernel_rfl) (by kernel_rfl) (by kernel_rfl) (fun _ _ _ h => h) (Or.inl ⟨by rfl, ?_⟩) hHeld ?_
    rotate_left
    · intro w hSw
      go_simp
      with_reducible rfl
    simp only [Act.put, List.getElem_toArray, List.getElem_cons_zero, List.getElem_cons_succ, List.setIfInBounds_toArray, List.set_cons_zero, List.set_cons_succ]
    refine wpAnyH_take (i := 14) (v := ?_) rfl (by kernel_rfl) (by kernel_rfl) (by kernel_rfl) (fun _ _ _ h => h) (Or.inl ⟨by rfl, ?_⟩) hHeld ?_
    rotate_left
    · intro w hSw
      go_simp
      with_reducible rfl
    simp only [Act.put, List.getElem_toArray, List.getElem_cons_zero, List.getElem_cons_succ, List.setIfInBounds_toArray, List.set_cons_zero, List.set_cons_succ]
    have c5 : (w4.setCell ⟨g, 579, none⟩ (.slice (some ⟨gu, 0, none⟩) nn gcap)).cell? ⟨g, 577, none⟩ = some (.int .i64 nw) := by rw [HG.out.1.row.cell (by omega), HNw.out]; rfl
    refine wpAnyH_ready (rs := [15]) (by kernel_rfl) (by simp) ?_
    refine AllReadyH.cons rfl (fun K hK => ?_) AllReadyH.nil
    go_simp
    refine hK.out _ _ c5 (fun hHeld => ?_)
    clear hK K
    refine wpAnyH_done (by kernel_rfl) ?_ _
    clear hHeld
    refine fin (fun W => Chg RB w W g F (deS S id)) ?_ ?_
    · have h6 := HG.out
      rw [HNw.out] at h6
      rw [e5.out]
      exact ⟨_, ⟨_, _, _, h6.1, fun _ => Iff.rfl⟩, h6.2.1, h6.2.2⟩
    clear HG c4 c5 d4 f4 hg4
    rintro W hch
    have HCh := Lib.hid hch
    clear hch
    go_wp2
    go_ret
    exact ⟨by rw [e4.out]; rfl, HCh.out⟩

end Go.Proofs.YtcpgkkphibhdfaaGreat
