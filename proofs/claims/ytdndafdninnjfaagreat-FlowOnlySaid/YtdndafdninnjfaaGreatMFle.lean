/-
  3 texts in one file, each with its own heading.
-/
import Derived.Test.YtdndafdninnjfaaGreatMFla
import Derived.Test.YtdndafdninnjfaaGreatMAff
/-
  What the reference's trees of layer 10 answers: who hangs on whom, as a forest of its own.
-/
namespace Go.Proofs.YtdndafdninnjfaaGreat
open Go.RowKit

/-- as far as it has come -/
def trT (L : List Nd) (j : Nat) : FT := (L.take j).filterMap (fun n => if 0 ≤ hangs L n.id then some (n.id, hangs L n.id) else none)
theorem trT_yes {L : List Nd} {j : Nat} {n : Nd} (h : L[j]? = some n) (hc : 0 ≤ hangs L n.id) : trT L (j + 1) = trT L j ++ [(n.id, hangs L n.id)] := by
  unfold trT
  rw [List.take_add_one, h, List.filterMap_append]
  simp [hc]
theorem trT_no {L : List Nd} {j : Nat} {n : Nd} (h : L[j]? = some n) (hc : ¬ 0 ≤ hangs L n.id) : trT L (j + 1) = trT L j := by
  unfold trT
  rw [List.take_add_one, h, List.filterMap_append]
  simp [hc]
theorem trT_len (L : List Nd) (j : Nat) : (trT L j).length ≤ L.length := by
  have h1 := List.length_filterMap_le (fun n => if 0 ≤ hangs L n.id then some (n.id, hangs L n.id) else none) (L.take j)
  rw [List.length_take] at h1
  unfold trT
  omega
theorem bs_pair9 (x y : Int) (W : World) : (Instr.buildSlice 133 1 #[(0, .agg #[.int .i64 x, .int .i64 y])]).run Tryz.prog W = .ok (.slice (some ⟨W.heap.size, 0, none⟩) 1 1) (W.alloc (.cells ([.int .i64 x, .int .i64 y] : List Value).toArray 137)) := by kernel_rfl
/-- one more pair, stored -/
theorem RF.push {w w4 : World} {g gu gcap : Nat} {qa : Option Addr} {qn qcap : Nat} {L L' : FT} {o : Obj} (h : RF w g (.slice qa qn qcap) L) (hgr : (w.alloc o).grownBy w4 (Value.slice qa qn qcap).ownBlock) {nn : Nat} (hc : ColP w4 (.slice (some ⟨gu, 0, none⟩) nn gcap) L') (hat : (Value.slice qa qn qcap).ownBlock = some gu ∨ (w.alloc o).heap.size ≤ gu) :
    RF (w4.setCell ⟨g, 0, none⟩ (.slice (some ⟨gu, 0, none⟩) nn gcap)) g (.slice (some ⟨gu, 0, none⟩) nn gcap) L' ∧ Blk w4 g 135 #[.slice qa qn qcap] ∧ gu ≠ g := by
  have hal : Below w.heap.size w (w.alloc o) := alloc_below _ _
  have hgug : gu ≠ g := fun e => by
    rcases hat with q | q
    · exact h.off (e ▸ q)
    · have := hal.size; have := h.blk.lt; omega
  have hb4 : Blk w4 g 135 #[.slice qa qn qcap] := (h.keep hal).blk.same (hgr.block g (h.keep hal).blk.lt (fun e => h.off e.symm))
  refine ⟨⟨hb4.set_ 0 _, ColX.same hc (fun b e => Go.Deep.blk_setCell_other _ _ _ _ (fun q => ?_)), fun e => hgug (by simpa [Value.ownBlock] using e)⟩, hb4, hgug⟩
  have e2 : gu = b := by simpa [Value.ownBlock] using e
  exact hgug (e2.trans q)
theorem below_drew9f (w : World) : Below w.heap.size w w.drew := ⟨rfl, rfl, rfl, Nat.le_refl _, fun _ _ => rfl⟩
section
variable {w : World} {g : Nat} {D : FD} {vl vd vs : Value}
set_option maxHeartbeats 8000000 in
set_option maxRecDepth 100000 in
theorem gtrees_any (h : RW w g D vl vd vs) (hn : D.L.length ≤ 1000) :
    Calls Tryz.prog 51 #[.pointer (some ⟨g, 0, none⟩)] w fun e w' => ∃ gm v, e = .returned (.pointer (some ⟨gm, 0, none⟩)) ∧ RF w' gm v (treesN D.L) ∧ Below w.heap.size w w' := by
  obtain ⟨a, cap, -, hrd⟩ := h.nodes
  have HRd := Lib.hid hrd
  obtain ⟨L, hLe⟩ : ∃ L, L = D.L := ⟨_, rfl⟩
  rw [← hLe] at HRd hn ⊢
  obtain ⟨n, hne⟩ : ∃ n, n = L.length := ⟨_, rfl⟩
  rw [← hne] at HRd hn
  have HN := Lib.hid hne
  have HHa : Hid (∀ u x, NRow u a n L → Calls Tryz.prog 12 #[.slice a n cap, .int .i64 x] u fun e w' => e = .returned (.int .i64 (hangs L x)) ∧ u = w') := Lib.hid (fun u x r => ghangs_any a n cap L x u r)
  have hg := (HRd.out w (Below.refl _ _)).2.1
  have HW0 : Hid (g < w.heap.size ∧ ∀ b off, a = some ⟨b, off, none⟩ → 0 < n → b < w.heap.size) := Lib.hid ⟨hg, fun b off e hn0 => by
    obtain ⟨b', off', _, e', hb', _⟩ := (HRd.out w (Below.refl _ _)).2.2.at_ hn0
    rw [e] at e'
    injection e' with e'
    injection e' with e' _ _
    rw [e']; exact hb'⟩
  have HB0 : Hid (Below w.heap.size w (w.alloc (.cells #[.slice none 0 0] 135))) := Lib.hid (alloc_below _ _)
  have HF0 : Hid (RF (w.alloc (.cells #[.slice none 0 0] 135)) w.heap.size (.slice none 0 0) (trT L 0)) := Lib.hid ⟨Blk.new w _ _, ColX.nil _ _ _ _, fun e => by cases e⟩
  clear h hrd hLe hne
  go_enter Tryz.func51, Tryz.ntmps51
  go_upto_region 3 with fail
  refine fin (fun W => RF W w.heap.size (.slice none 0 0) (trT L 0) ∧ Below w.heap.size w W) ⟨HF0.out, HB0.out⟩ ?_
  clear HF0 HB0
  rintro W0 ⟨hf0, hb0⟩
  have HF0 := Lib.hid hf0
  have HB0 := Lib.hid hb0
  clear hf0 hb0 hg
  go_loopw [4, 5] (fun i _ wr => ∃ j : Nat, j ≤ n ∧ i = .int .i64 j ∧ (∃ v, RF wr w.heap.size v (trT L j) ∧ ∀ q, v.ownBlock = some q → w.heap.size ≤ q) ∧ Below w.heap.size w wr) (fun i _ _ => n - (ivl i).toNat)
  case atStart => exact ⟨0, by omega, rfl, ⟨_, HF0.out, fun q e => by cases e⟩, HB0.out⟩
  case round =>
    clear HF0 HB0
    obtain ⟨j, hj, rfl, ⟨mv, hf, hnew⟩, hb⟩ := hrel
    have HF := Lib.hid hf
    have RFnew := Lib.hid hnew
    have HB := Lib.hid hb
    obtain ⟨c0, hg, hr0⟩ := HRd.out wr hb
    have HR := Lib.hid hr0
    clear hf hb hr0 hnew
    by_cases hlt : j < n
    · obtain ⟨b, off, nd, rfl, hbl, hx, hr⟩ := HR.out.at_ hlt
      have cx : wr.cell? ⟨b, off + j * 15, none⟩ = some (.int .i64 nd.id) := hr 0 _ rfl
      have HYes := Lib.hid (fun c => trT_yes (L := L) hx c)
      have HNo := Lib.hid (fun c => trT_no (L := L) hx c)
      obtain ⟨y, hy⟩ : ∃ y, y = nd.id := ⟨_, rfl⟩
      have HY9 : Hid (∀ nd', L[j]? = some nd' → y = nd'.id) := Lib.hid (fun nd' h9 => by rw [hx] at h9; injection h9 with h9; rw [hy, h9])
      rw [← hy] at cx HYes HNo
      have j0 : (0 : Int) ≤ (j : Int) := by omega
      have j1 : (j : Int) < (n : Int) := by omega
      have HH : Hid (∀ q, Calls Tryz.prog 12 #[.slice (some ⟨b, off, none⟩) n cap, .int .i64 y] (wr.drewN q) fun e w' => e = .returned (.int .i64 (hangs L y)) ∧ (wr.drewN q) = w') := Lib.hid (fun q => HHa.out _ y (HR.out.keep (Go.below_drewN (Below.refl _ _) q)))
      obtain ⟨p, hp⟩ : ∃ p, p = hangs L y := ⟨_, rfl⟩
      rw [← hp] at HH HYes HNo
      clear hx hr hy hp
      go_wp2
      go_quiet (first | (go_at_call 12; refine Calls.quiet_of_same ((HH.out _).mono fun _ _ z => ⟨z.1, z.2.symm⟩)))
      refine fin (fun W => RF W w.heap.size mv (trT L j) ∧ Below w.heap.size w W ∧ W.cell? ⟨g, 0, none⟩ = some (.slice (some ⟨b, off, none⟩) n cap) ∧ W.cell? ⟨b, off + j * 15, none⟩ = some (.int .i64 y) ∧ g < W.heap.size) ⟨HF.out.keep (Go.below_drewN (Below.refl _ _) nq), Go.below_drewN HB.out nq, cell_keep c0 (Go.below_drewN (Below.refl _ _) nq), cell_keep cx (Go.below_drewN (Below.refl _ _) nq), hg⟩ ?_
      clear HF HB c0 cx hg HR HH hbl
      rintro W ⟨hf, hb, c0, cx, hg⟩
      have HF := Lib.hid hf
      have HB := Lib.hid hb
      clear hf hb
      by_cases hc : 0 ≤ p
      · have HSt := Lib.hid (HYes.out hc)
        obtain ⟨qa, qcap, hqv, -, -⟩ := ColX.form HF.out.col
        rw [List.length_map] at hqv
        subst hqv
        have htl := trT_len L j
        rw [← HN.out] at htl
        obtain ⟨T, hT⟩ : ∃ T, T = trT L j := ⟨_, rfl⟩
        rw [← hT] at HF HSt htl RFnew
        have cm : W.cell? ⟨w.heap.size, 0, none⟩ = some (.slice qa T.length qcap) := HF.out.blk.cell 0
        have hne : w.heap.size ≠ g ∧ w.heap.size ≠ b := by
          have h1 := HW0.out.1
          have h2 := HW0.out.2 b off rfl (by omega)
          omega
        have CW := Lib.hid (And.intro c0 (And.intro cx cm))
        have CB : Hid ((W.drew.alloc (.cells ([.int .i64 y, .int .i64 p] : List Value).toArray 137)).cell? ⟨w.heap.size, 0, none⟩ = some (.slice qa T.length qcap) ∧ (W.drew.alloc (.cells ([.int .i64 y, .int .i64 p] : List Value).toArray 137)).cell? ⟨g, 0, none⟩ = some (.slice (some ⟨b, off, none⟩) n cap) ∧ (W.drew.alloc (.cells ([.int .i64 y, .int .i64 p] : List Value).toArray 137)).cell? ⟨b, off + j * 15, none⟩ = some (.int .i64 y)) := Lib.hid ⟨cell_keep (w := W.drew) cm (alloc_below _ _), cell_keep (w := W.drew) c0 (alloc_below _ _), cell_keep (w := W.drew) cx (alloc_below _ _)⟩
        clear c0 cx cm hT
        go_upto_region 7 with fail
        refine wp_region_held_drew (S := fun w' => w'.cell? ⟨g, 0, none⟩ = some (.slice (some ⟨b, off, none⟩) n cap) ∧ w'.cell? ⟨b, off + j * 15, none⟩ = some (.int .i64 y)) (by kernel_rfl) (⟨CW.out.1, CW.out.2.1⟩) (fun hHeld => ?_)
        refine wpAnyH_take (i := 0) (v := ?_) rfl (by kernel_rfl) (by kernel_rfl) (by kernel_rfl) (fun _ _ _ h => h) (Or.inl ⟨by rfl, ?_⟩) hHeld ?_
        rotate_left
        · intro w hSw
          obtain ⟨s0, s1⟩ := hSw
          go_simp
          with_reducible rfl
        simp only [Act.put, List.getElem_toArray, List.getElem_cons_zero, List.setIfInBounds_toArray, List.set_cons_zero, List.set_cons_succ]
        refine wpAnyH_take (i := 1) (v := ?_) rfl (by kernel_rfl) (by kernel_rfl) (by kernel_rfl) (fun _ _ _ h => h) (Or.inl ⟨by rfl, ?_⟩) hHeld ?_
        rotate_left
        · intro w hSw
          obtain ⟨s0, s1⟩ := hSw
          go_simp
          with_reducible rfl
        simp only [Act.put, List.getElem_toArray, List.getElem_cons_zero, List.getElem_cons_succ, List.setIfInBounds_toArray, List.set_cons_zero, List.set_cons_succ]
        refine wpAnyH_take (i := 2) (v := ?_) rfl (by kernel_rfl) (by kernel_rfl) (by kernel_rfl) (fun _ _ _ h => h) (Or.inl ⟨by rfl, ?_⟩) hHeld ?_
        rotate_left
        · intro w hSw
          obtain ⟨s0, s1⟩ := hSw
          go_simp
          with_reducible rfl
        simp only [Act.put, List.getElem_toArray, List.getElem_cons_zero, List.getElem_cons_succ, List.setIfInBounds_toArray, List.set_cons_zero, List.set_cons_succ]
        refine wpAnyH_take (i := 3) (v := ?_) rfl (by kernel_rfl) (by kernel_rfl) (by kernel_rfl) (fun _ _ _ h => h) (Or.inl ⟨by rfl, ?_⟩) hHeld ?_
        rotate_left
        · intro w hSw
          obtain ⟨s0, s1⟩ := hSw
          go_simp
          with_reducible rfl
        simp only [Act.put, List.getElem_toArray, List.getElem_cons_zero, List.getElem_cons_succ, List.setIfInBounds_toArray, List.set_cons_zero, List.set_cons_succ]
        refine wpAnyH_take (i := 5) (v := ?_) rfl (by kernel_rfl) (by kernel_rfl) (by kernel_rfl) (fun _ _ _ h => h) (Or.inl ⟨by rfl, ?_⟩) hHeld ?_
        rotate_left
        · intro w hSw
          obtain ⟨s0, s1⟩ := hSw
          go_simp
          with_reducible rfl
        simp only [Act.put, List.getElem_toArray, List.getElem_cons_zero, List.getElem_cons_succ, List.setIfInBounds_toArray, List.set_cons_zero, List.set_cons_succ]
        refine wpAnyH_take (i := 6) (v := ?_) rfl (by kernel_rfl) (by kernel_rfl) (by kernel_rfl) (fun _ _ _ h => h) (Or.inl ⟨by rfl, ?_⟩) hHeld ?_
        rotate_left
        · intro w hSw
          obtain ⟨s0, s1⟩ := hSw
          go_simp
          with_reducible rfl
        simp only [Act.put, List.getElem_toArray, List.getElem_cons_zero, List.getElem_cons_succ, List.setIfInBounds_toArray, List.set_cons_zero, List.set_cons_succ]
        refine wpAnyH_take (i := 7) (v := ?_) rfl (by kernel_rfl) (by kernel_rfl) (by kernel_rfl) (fun _ _ _ h => h) (Or.inl ⟨by rfl, ?_⟩) hHeld ?_
        rotate_left
        · intro w hSw
          obtain ⟨s0, s1⟩ := hSw
          go_simp
          with_reducible rfl
        simp only [Act.put, List.getElem_toArray, List.getElem_cons_zero, List.getElem_cons_succ, List.setIfInBounds_toArray, List.set_cons_zero, List.set_cons_succ]
        refine wpAnyH_take (i := 8) (v := ?_) rfl (by kernel_rfl) (by kernel_rfl) (by kernel_rfl) (fun _ _ _ h => h) (Or.inl ⟨by rfl, ?_⟩) hHeld ?_
        rotate_left
        · intro w hSw
          obtain ⟨s0, s1⟩ := hSw
          go_simp
          with_reducible rfl
        simp only [Act.put, List.getElem_toArray, List.getElem_cons_zero, List.getElem_cons_succ, List.setIfInBounds_toArray, List.set_cons_zero, List.set_cons_succ]
        refine wpAnyH_take (i := 9) (v := ?_) rfl (by kernel_rfl) (by kernel_rfl) (by kernel_rfl) (fun _ _ _ h => h) (Or.inl ⟨by rfl, ?_⟩) hHeld ?_
        rotate_left
        · intro w hSw
          obtain ⟨s0, s1⟩ := hSw
          go_simp
          with_reducible rfl
        simp only [Act.put, List.getElem_toArray, List.getElem_cons_zero, List.getElem_cons_succ, List.setIfInBounds_toArray, List.set_cons_zero, List.set_cons_succ]
        refine wpAnyH_take (i := 10) (v := ?_) rfl (by kernel_rfl) (by kernel_rfl) (by kernel_rfl) (fun _ _ _ h => h) (Or.inl ⟨by rfl, ?_⟩) hHeld ?_
        rotate_left
        · intro w hSw
          obtain ⟨s0, s1⟩ := hSw
          go_simp
          with_reducible rfl
        simp only [Act.put, List.getElem_toArray, List.getElem_cons_zero, List.getElem_cons_succ, List.setIfInBounds_toArray, List.set_cons_zero, List.set_cons_succ]
        refine wpAnyH_take (i := 11) (v := ?_) rfl (by kernel_rfl) (by kernel_rfl) (by kernel_rfl) (fun _ _ _ h => h) (Or.inl ⟨by rfl, ?_⟩) hHeld ?_
        rotate_left
        · intro w hSw
          obtain ⟨s0, s1⟩ := hSw
          go_simp
          with_reducible rfl
        simp only [Act.put, List.getElem_toArray, List.getElem_cons_zero, List.getElem_cons_succ, List.setIfInBounds_toArray, List.set_cons_zero, List.set_cons_succ]
        refine wpAnyH_take (i := 12) (v := ?_) rfl (by kernel_rfl) (by kernel_rfl) (by kernel_rfl) (fun _ _ _ h => h) (Or.inl ⟨by rfl, ?_⟩) hHeld ?_
        rotate_left
        · intro w hSw
          obtain ⟨s0, s1⟩ := hSw
          go_simp
          with_reducible rfl
        simp only [Act.put, List.getElem_toArray, List.getElem_cons_zero, List.getElem_cons_succ, List.setIfInBounds_toArray, List.set_cons_zero, List.set_cons_succ]
        refine wpAnyH_take (i := 13) (v := ?_) rfl (by kernel_rfl) (by kernel_rfl) (by kernel_rfl) (fun _ _ _ h => h) (Or.inl ⟨by rfl, ?_⟩) hHeld ?_
        rotate_left
        · intro w hSw
          obtain ⟨s0, s1⟩ := hSw
          go_simp
          with_reducible rfl
        simp only [Act.put, List.getElem_toArray, List.getElem_cons_zero, List.getElem_cons_succ, List.setIfInBounds_toArray, List.set_cons_zero, List.set_cons_succ]
        refine wpAnyH_take (i := 14) (v := ?_) rfl (by kernel_rfl) (by kernel_rfl) (by kernel_rfl) (fun _ _ _ h => h) (Or.inl ⟨by rfl, ?_⟩) hHeld ?_
        rotate_left
        · intro w hSw
          obtain ⟨s0, s1⟩ := hSw
          go_simp
          with_reducible rfl
        simp only [Act.put, List.getElem_toArray, List.getElem_cons_zero, List.getElem_cons_succ, List.setIfInBounds_toArray, List.set_cons_zero, List.set_cons_succ]
        refine wpAnyH_pair (i := 4) (j := 15) (v := .slice qa T.length qcap) (u := .slice (some ⟨W.heap.size, 0, none⟩) 1 1) (w' := W.drew.alloc (.cells ([.int .i64 y, .int .i64 p] : List Value).toArray 137)) rfl rfl (by kernel_rfl) (by kernel_rfl) (by kernel_rfl) (by rfl) (by rfl) (by rfl) (by rfl) (exec_cell rfl rfl Tryz.underlying133 CW.out.2.2) (exec_bs rfl rfl (bs_pair9 y p _)) (exec_bs rfl rfl (bs_pair9 y p _)) (exec_cell rfl rfl Tryz.underlying133 CB.out.1) rfl hHeld (CB.out.2) ?_
        simp only [Act.put, List.getElem_toArray, List.getElem_cons_zero, List.getElem_cons_succ, List.setIfInBounds_toArray, List.set_cons_zero, List.set_cons_succ]
        refine wpAnyH_ready (rs := [16]) (by kernel_rfl) (by simp) ?_
        refine AllReadyH.cons rfl (fun K hK => ?_) AllReadyH.nil
        rw [if_pos (by rfl)]
        have hmm : (T.map mkPr).length ≤ 2000 := by rw [List.length_map]; omega
        refine wp_appC (.tmp 36) (.tmp 47) 133 137 2 16 (.agg #[.int .i64 0, .int .i64 0]) cPr rfl Tryz.underlying133 pinfo rfl (by decide) (by decide) (fun _ => rfl) (.slice qa T.length qcap) (T.map mkPr) rfl (col_keep (show ColX W.drew _ 2 cPr _ _ from HF.out.col) (alloc_below _ _)) hmm (mkPr (y, p)) [.int .i64 y, .int .i64 p] rfl (pone y p) W.heap.size (Blk.new W.drew _ _) rfl ?_
        intro gu gcap w4 hc4 hgr hat
        have hc' : ColP w4 (.slice (some ⟨gu, 0, none⟩) ((T.map mkPr).length + 1) gcap) (T ++ [(y, p)]) := by
          show ColX w4 _ 2 cPr _ ((T ++ [(y, p)]).map mkPr)
          rw [List.map_append]; exact hc4
        generalize (T.map mkPr).length + 1 = nn at hc' ⊢
        obtain ⟨hrf, k4, hgug⟩ := RF.push (HF.out.keep (below_drew9f W)) hgr hc' hat
        have hal : Below W.heap.size W (W.drew.alloc (.cells ([.int .i64 y, .int .i64 p] : List Value).toArray 137)) := bthen (below_drew9f W) (alloc_below _ _)
        have hlow : Below w.heap.size w w4 := by
          have hb1 := bthen HB.out hal
          refine ⟨hgr.os.trans hb1.os, hgr.tape.trans hb1.tape, hgr.output.trans hb1.output, Nat.le_trans hb1.size hgr.size, fun q hq => (hgr.block q (Nat.lt_of_lt_of_le hq hb1.size) (fun e => ?_)).trans (hb1.block q hq)⟩
          have := (RFnew.out q e.symm)
          omega
        have c4 : w4.cell? ⟨g, 0, none⟩ = some (.slice (some ⟨b, off, none⟩) n cap) ∧ w4.cell? ⟨b, off + j * 15, none⟩ = some (.int .i64 y) := by
          obtain ⟨q1, _, q3⟩ := HRd.out w4 hlow
          obtain ⟨b', off', nd', e', _, hx', hr'⟩ := q3.at_ hlt
          injection e' with e'
          injection e' with e1 e2 _
          subst e1 e2
          refine ⟨q1, ?_⟩
          rw [HY9.out nd' hx']
          exact hr' 0 _ rfl
        have HG : Hid (RF (w4.setCell ⟨w.heap.size, 0, none⟩ (.slice (some ⟨gu, 0, none⟩) nn gcap)) w.heap.size (.slice (some ⟨gu, 0, none⟩) nn gcap) (trT L (j + 1))) := Lib.hid (by rw [HSt.out]; exact hrf)
        have HL4 : Hid (Below w.heap.size w (w4.setCell ⟨w.heap.size, 0, none⟩ (.slice (some ⟨gu, 0, none⟩) nn gcap))) := Lib.hid (hlow.setCell (p := ⟨w.heap.size, 0, none⟩) (Nat.le_refl _) _)
        have HNew2 : Hid (∀ q, (Value.slice (some ⟨gu, 0, none⟩) nn gcap).ownBlock = some q → w.heap.size ≤ q) := Lib.hid (fun q e => by
          have e2 : gu = q := by simpa [Value.ownBlock] using e
          rcases hat with z | z
          · have := RFnew.out gu z
            omega
          · have h1 : W.heap.size ≤ (W.drew.alloc (.cells ([.int .i64 y, .int .i64 p] : List Value).toArray 137)).heap.size := hal.size
            have h2 := HB.out.size
            omega)
        have d4 : w4.cell? ⟨w.heap.size, 0, none⟩ = some (.slice qa T.length qcap) := k4.cell 0
        have f4 : w4.frozen? ⟨w.heap.size, 0, none⟩ = false := k4.frozen 0
        have hg4 := k4.lt
        have c5 : (w4.setCell ⟨w.heap.size, 0, none⟩ (.slice (some ⟨gu, 0, none⟩) nn gcap)).cell? ⟨g, 0, none⟩ = some (.slice (some ⟨b, off, none⟩) n cap) ∧ (w4.setCell ⟨w.heap.size, 0, none⟩ (.slice (some ⟨gu, 0, none⟩) nn gcap)).cell? ⟨b, off + j * 15, none⟩ = some (.int .i64 y) := by
          have hs : ∀ q o, q ≠ w.heap.size → (w4.setCell ⟨w.heap.size, 0, none⟩ (.slice (some ⟨gu, 0, none⟩) nn gcap)).cell? ⟨q, o, none⟩ = w4.cell? ⟨q, o, none⟩ := fun q o hq => by
            simp only [World.cell?]
            rw [Go.Deep.blk_setCell_other _ _ _ _ hq]
          rw [hs g 0 (fun e => hne.1 e.symm), hs b _ (fun e => hne.2 e.symm)]
          exact c4
        clear hc4 hc' hgr hat hrf k4 hlow hal
        refine hK.out _ _ c4 (fun hHeld => ?_)
        clear hK K
        simp only [Act.put, List.getElem_toArray, List.getElem_cons_zero, List.getElem_cons_succ, List.setIfInBounds_toArray, List.set_cons_zero, List.set_cons_succ]
        refine wpAnyH_take (i := 17) (v := ?_) rfl (by kernel_rfl) (by kernel_rfl) (by kernel_rfl) (fun _ _ _ h => h) (Or.inl ⟨by rfl, ?_⟩) hHeld ?_
        rotate_left
        · intro w hSw
          obtain ⟨s0, s1⟩ := hSw
          go_simp
          with_reducible rfl
        simp only [Act.put, List.getElem_toArray, List.getElem_cons_zero, List.getElem_cons_succ, List.setIfInBounds_toArray, List.set_cons_zero, List.set_cons_succ]
        refine wpAnyH_take (i := 18) (v := ?_) rfl (by kernel_rfl) (by kernel_rfl) (by kernel_rfl) (fun _ _ _ h => h) (Or.inl ⟨by rfl, ?_⟩) hHeld ?_
        rotate_left
        · intro w hSw
          obtain ⟨s0, s1⟩ := hSw
          go_simp
          with_reducible rfl
        simp only [Act.put, List.getElem_toArray, List.getElem_cons_zero, List.getElem_cons_succ, List.setIfInBounds_toArray, List.set_cons_zero, List.set_cons_succ]
        refine wpAnyH_ready (rs := [19]) (by kernel_rfl) (by simp) ?_
        refine AllReadyH.cons rfl (fun K hK => ?_) AllReadyH.nil
        go_simp
        refine hK.out _ _ c5 (fun hHeld => ?_)
        clear hK K
        refine wpAnyH_done (by kernel_rfl) ?_ _
        clear hHeld
        refine fin (fun W => (∃ v, RF W w.heap.size v (trT L (j + 1)) ∧ ∀ q, v.ownBlock = some q → w.heap.size ≤ q) ∧ Below w.heap.size w W) ⟨⟨_, HG.out, HNew2.out⟩, HL4.out⟩ ?_
        clear HG HL4 HNew2 c4 c5 d4 f4 hg4 CW CB HF HB hg
        rintro W9 ⟨hf9, hb9⟩
        have HF9 := Lib.hid hf9
        have HB9 := Lib.hid hb9
        clear hf9 hb9
        go_wp2
        go_roundw
        case rel => exact ⟨j + 1, by omega, by go_num, HF9.out, HB9.out⟩
        case measure => simp [ivl] <;> omega
      · have hc2 : p < 0 := by omega
        have HSt := Lib.hid (HNo.out (by omega))
        go_wp2
        go_roundw
        case rel => exact ⟨j + 1, by omega, by go_num, ⟨mv, by rw [HSt.out]; exact HF.out, RFnew.out⟩, HB.out⟩
        case measure => simp [ivl] <;> omega
    · obtain rfl : j = n := by omega
      have HE : Hid (∃ v, RF wr w.heap.size v (treesN L)) := Lib.hid ⟨mv, by
        have := HF.out
        unfold trT at this
        rwa [List.take_of_length_le (by rw [HN.out]; exact Nat.le_refl _)] at this⟩
      have j1 : ¬ (j : Int) < (j : Int) := by omega
      clear HR
      go_wp2
      go_ret
      obtain ⟨v, hv⟩ := HE.out
      exact ⟨_, rfl, ⟨v, hv⟩, HB.out⟩
end
end Go.Proofs.YtdndafdninnjfaaGreat
/-
  What the reference's touched of layer 10 answers.
-/
namespace Go.Proofs.YtdndafdninnjfaaGreat
open Go.RowKit

section
variable {w : World} {g : Nat} {D : FD} {vl vd vs : Value}
theorem RW.dirts (h : RW w g D vl vd vs) : ∃ a cap, vd = .slice a D.dirty.length cap ∧ ∀ u, Below w.heap.size w u → u.cell? ⟨g, 1, none⟩ = some (.slice a D.dirty.length cap) ∧ u.cell? ⟨g, 2, none⟩ = some (.bool D.begun) ∧ g < u.heap.size ∧ Row u a D.dirty.length D.dirty := by
  obtain ⟨a, cap, hv, hr⟩ := h.dir.row
  exact ⟨a, cap, hv, fun u q => ⟨by have := (h.keep q).blk.cell 1; rw [hv] at this; exact this, (h.keep q).blk.cell 2, (h.keep q).blk.lt, row_keep hr q⟩⟩
theorem filt_step {l : List Int} {p : Int → Bool} {j : Nat} {z : Int} (h : l[j]? = some z) : (l.take (j + 1)).filter p = (l.take j).filter p ++ (if p z then [z] else []) := by
  rw [List.take_add_one, h, List.filter_append]
  cases q : p z <;> simp [q]
set_option maxHeartbeats 8000000 in
set_option maxRecDepth 100000 in
theorem gtouched_any (h : RW w g D vl vd vs) (hW : WF (treesN D.L)) (hn : D.L.length ≤ 1000) (hd : D.dirty.length ≤ 10000) :
    Calls Tryz.prog 28 #[.pointer (some ⟨g, 0, none⟩)] w fun e w' => ∃ v, e = .returned v ∧ LRes w w' (touchN D) v ∧ Below w.heap.size w w' := by
  have HNa := Lib.hid (gnames_any h hn)
  have HTr : Hid (∀ u, Below w.heap.size w u → Calls Tryz.prog 51 #[.pointer (some ⟨g, 0, none⟩)] u fun e w' => ∃ gm v, e = .returned (.pointer (some ⟨gm, 0, none⟩)) ∧ RF w' gm v (treesN D.L) ∧ Below u.heap.size u w') := Lib.hid (fun u q => gtrees_any (h.keep q) hn)
  have HUn : Hid (∀ u gm v a n cap l, RF u gm v (treesN D.L) → Row u a n l → n ≤ 10000 → Calls Tryz.prog 52 #[.pointer (some ⟨gm, 0, none⟩), .slice a n cap] u fun e w' => ∃ v, e = .returned v ∧ LRes u w' (undL (treesN D.L) l) v ∧ Below u.heap.size u w') := Lib.hid (fun u gm v a n cap l hf hr hl => runder_any hf hW (Nat.le_trans (trees_len _) hn) a n cap l hr hl)
  obtain ⟨da, dcap, -, hdr⟩ := h.dirts
  have HDr := Lib.hid hdr
  have hnl : (namesN D.L).length ≤ 1000 := by
    unfold namesN
    rw [(sortI_perm _).length_eq, List.length_map]
    exact hn
  have HT : Hid (touchN D = undL (treesN D.L) (if D.begun then D.dirty.filter (fun x => decide (x ∈ namesN D.L)) else namesN D.L)) := Lib.hid rfl
  obtain ⟨A, hA⟩ : ∃ A, A = namesN D.L := ⟨_, rfl⟩
  obtain ⟨T, hT⟩ : ∃ T, T = treesN D.L := ⟨_, rfl⟩
  obtain ⟨B, hB⟩ : ∃ B, B = D.dirty := ⟨_, rfl⟩
  obtain ⟨bg, hbg⟩ : ∃ bg, bg = D.begun := ⟨_, rfl⟩
  obtain ⟨R, hR⟩ : ∃ R, R = touchN D := ⟨_, rfl⟩
  rw [← hA] at HNa hnl HT
  rw [← hT] at HTr HUn HT
  rw [← hB] at HDr hd HT
  rw [← hbg] at HDr HT
  rw [← hR] at HT ⊢
  obtain ⟨m, hm⟩ : ∃ m, m = B.length := ⟨_, rfl⟩
  rw [← hm] at HDr hd
  have HM := Lib.hid hm
  obtain ⟨i0, hi0, hz0, hz1, hz2⟩ := info_parts id_info
  have HI := Lib.hid (And.intro hi0 (And.intro hz0 (And.intro hz1 hz2)))
  clear h hW hdr hA hT hB hbg hR hm hi0 hz0 hz1 hz2
  go_enter Tryz.func28, Tryz.ntmps28
  go_wp2_with fail
  refine HNa.out.mono ?_
  rintro e w1 ⟨v1, rfl, ⟨a1, c1, hv1, r1, -⟩, b1⟩
  subst hv1
  have HR1 := Lib.hid r1
  have HB1 := Lib.hid b1
  have HTt := Lib.hid (HTr.out w1 b1)
  obtain ⟨k, hk⟩ : ∃ k, k = A.length := ⟨_, rfl⟩
  rw [← hk] at HR1 hnl ⊢
  clear r1 b1 HNa HTr hk
  go_wp2_with fail
  refine HTt.out.mono ?_
  rintro e w2 ⟨gm, vm, rfl, hrf, b2⟩
  have HF := Lib.hid hrf
  have HB2 := Lib.hid (bthen HB1.out b2)
  have HR2 := Lib.hid (row_keep HR1.out b2)
  obtain ⟨cd, cb, hg, -⟩ := HDr.out w2 HB2.out
  clear hrf b2 HTt HB1 HR1
  cases bg with
  | false =>
    have HU := Lib.hid (HUn.out w2 gm vm a1 k c1 A HF.out HR2.out (by omega))
    have hsz := HB2.out.size
    go_wp2_with fail
    refine HU.out.mono ?_
    rintro e w3 ⟨v3, rfl, hlr, b3⟩
    have HE : Hid (LRes w w3 R v3 ∧ Below w.heap.size w w3) := Lib.hid ⟨by
      obtain ⟨a9, c9, e9, r9, q9⟩ := hlr
      rw [HT.out]
      exact ⟨a9, c9, e9, r9, q9.imp id (fun q ad e => Nat.le_trans hsz (q ad e))⟩, bthen HB2.out b3⟩
    clear hlr b3 HU
    go_wp2
    go_ret
    exact ⟨v3, rfl, HE.out⟩
  | true =>
    go_wp2
    go_loopw [5, 6, 7] (fun v5 i _ wr => ∃ j : Nat, j ≤ m ∧ i = .int .i64 j ∧ OwnD wr w2.heap.size v5 ((B.take j).filter (fun x => decide (x ∈ A))).length ((B.take j).filter (fun x => decide (x ∈ A))) ∧ Below w2.heap.size w2 wr) (fun _ i _ _ => m - (ivl i).toNat)
    case atStart => exact ⟨0, by omega, rfl, OwnD.nil _ _, Below.refl _ _⟩
    case round =>
      clear cd cb hg
      obtain ⟨j, hj, rfl, ho, hb⟩ := hrel
      have HOwn := Lib.hid ho
      have HB := Lib.hid hb
      have HBw := Lib.hid (bthen HB2.out hb)
      obtain ⟨cd, cb, hg, hdr⟩ := HDr.out wr HBw.out
      have HDq := Lib.hid hdr
      have HRr := Lib.hid (row_keep HR2.out hb)
      have hsz : w2.heap.size ≤ wr.heap.size := hb.size
      clear ho hb hdr
      have hpl : ((B.take j).filter (fun x => decide (x ∈ A))).length ≤ 10000 := by
        have q1 := List.length_filter_le (fun x => decide (x ∈ A)) (B.take j)
        rw [List.length_take] at q1
        omega
      by_cases hlt : j < m
      · obtain ⟨b, off, z, rfl, hz, cz⟩ := row_at HDq.out hlt
        have hbl := World.block_lt_of_cell? _ _ cz
        have HH := Lib.hid (plhas_any a1 k c1 A z wr HRr.out)
        have HSt := Lib.hid (filt_step (p := fun x => decide (x ∈ A)) hz)
        obtain ⟨hb, hhb⟩ : ∃ hb, hb = decide (z ∈ A) := ⟨_, rfl⟩
        obtain ⟨pre, hpre⟩ : ∃ pre, pre = (B.take j).filter (fun x => decide (x ∈ A)) := ⟨_, rfl⟩
        rw [← hhb] at HH HSt
        rw [← hpre] at HOwn HSt hpl
        have j0 : (0 : Int) ≤ (j : Int) := by omega
        have j1 : (j : Int) < (m : Int) := by omega
        clear hz hhb hpre HDq
        go_wp2_with fail
        refine HH.out.mono ?_
        rintro e w5 ⟨rfl, rfl⟩
        clear HH
        cases hb with
        | false =>
          go_wp2
          go_roundw
          case rel => exact ⟨j + 1, by omega, by go_num, by rw [HSt.out]; simpa using HOwn.out, HB.out⟩
          case measure => simp [ivl] <;> omega
        | true =>
          obtain ⟨q, hq⟩ : ∃ q, q = pre.length := ⟨_, rfl⟩
          rw [← hq] at HOwn hpl
          have HQ := Lib.hid hq
          clear hq
          go_wp2_with (at_builtin; refine wpList_append_own _ rfl (.tmp 39) (.tmp 47) 24 rfl w2.heap.size 41 i0 (.int .i64 0) 1 8 Tryz.underlying24 HI.out.1 HI.out.2.1 HI.out.2.2.1 HI.out.2.2.2 rfl (by decide) _ _ _ rfl (HOwn.out.alloc _) ⟨wr.heap.size, 0, none⟩ 1 1 [.int .i64 z] rfl rfl (cell_one_new _ _ _) (by intro u hu; simp at hu; subst hu; rfl) (by unfold maxLen; omega) (by omega) (by simp; omega) ?_)
          intro v' w6 hown' hgrow _
          have HOwn' := Lib.hid hown'
          have HB6 := Lib.hid (grownD_below HOwn.out (Nat.le_refl _) HB.out hsz hgrow)
          clear hown' hgrow
          go_wp2
          go_roundw
          case rel =>
            refine ⟨j + 1, by omega, by go_num, ?_, HB6.out⟩
            rw [HSt.out]
            show OwnD _ _ _ (pre ++ [z]).length (pre ++ [z])
            rw [List.length_append, ← HQ.out]
            unfold OwnD
            rw [List.map_append]
            exact HOwn'.out
          case measure => simp [ivl] <;> omega
      · obtain rfl : j = m := by omega
        have e0 : B.take j = B := List.take_of_length_le (by rw [HM.out]; exact Nat.le_refl _)
        rw [e0] at HOwn hpl
        obtain ⟨qa, qcap, hqv, hqr⟩ := HOwn.out.row
        subst hqv
        have HU := Lib.hid (HUn.out wr gm vm qa _ qcap _ (HF.out.keep HB.out) hqr hpl)
        have j1 : ¬ (j : Int) < (j : Int) := by omega
        have hszw := HBw.out.size
        obtain ⟨k2, hk2⟩ : ∃ k2, k2 = (B.filter (fun x => decide (x ∈ A))).length := ⟨_, rfl⟩
        have HT2 : Hid (R = undL T (B.filter (fun x => decide (x ∈ A)))) := Lib.hid HT.out
        obtain ⟨Z, hZ⟩ : ∃ Z, Z = B.filter (fun x => decide (x ∈ A)) := ⟨_, rfl⟩
        rw [← hZ] at HU HT2 hk2 ⊢
        rw [← hk2] at HU ⊢
        clear e0 hqr HDq HRr hZ hk2 HOwn
        go_wp2_with fail
        refine HU.out.mono ?_
        rintro e w3 ⟨v3, rfl, hlr, b3⟩
        have HE : Hid (LRes w w3 R v3 ∧ Below w.heap.size w w3) := Lib.hid ⟨by
          obtain ⟨a9, c9, e9, r9, q9⟩ := hlr
          rw [HT2.out]
          exact ⟨a9, c9, e9, r9, q9.imp id (fun q ad e => Nat.le_trans hszw (q ad e))⟩, bthen HBw.out b3⟩
        clear hlr b3 HU
        go_wp2
        go_ret
        exact ⟨v3, rfl, HE.out⟩
end
end Go.Proofs.YtdndafdninnjfaaGreat
/-
  What the reference's one of layer 10 answers: a node's state by that of whom it hangs on.
-/
namespace Go.Proofs.YtdndafdninnjfaaGreat
open Go.RowKit

theorem wpList_bld0f {ops : Array Oper} {rest : List Oper} {op : Oper} {a : Go.Act} {w : World} {Q : Exit → Go.Act → World → Prop} (hgd : op.guard = none) (t : TypeId) (ho : op.op = .build t #[]) (vr : Value)
    (hrun : ∀ W, (Instr.build t #[]).run Tryz.prog W = .ok vr W)
    (h : wpList Tryz.prog ops Q rest (a.put op.dst vr) w) : wpList Tryz.prog ops Q (op :: rest) a w :=
  wpList_plain hgd fun K hK => by
    have h2 := hK _ _ h
    unfold Oper.wp execOp
    simp only [ho]
    simp [hrun]
    exact h2
theorem wpList_bld3f {ops : Array Oper} {rest : List Oper} {op : Oper} {a : Go.Act} {w : World} {Q : Exit → Go.Act → World → Prop} (hgd : op.guard = none) (t : TypeId) (x y z : Operand) (ho : op.op = .build t #[(0, x), (1, y), (2, z)]) (vx vy vz vr : Value) (hx : a.eval x = vx) (hy : a.eval y = vy) (hz : a.eval z = vz)
    (hrun : ∀ W, (Instr.build t #[(0, vx), (1, vy), (2, vz)]).run Tryz.prog W = .ok vr W)
    (h : wpList Tryz.prog ops Q rest (a.put op.dst vr) w) : wpList Tryz.prog ops Q (op :: rest) a w :=
  wpList_plain hgd fun K hK => by
    have h2 := hK _ _ h
    unfold Oper.wp execOp
    simp only [ho]
    simp [hx, hy, hz, hrun]
    exact h2
def zSt : Stt := ⟨0, fun _ => 0, false⟩
theorem b10zero (W : World) : (Instr.build 52 #[]).run Tryz.prog W = .ok (.agg (cSt zSt).toArray) W := by kernel_rfl
theorem b10state (x : Int) (M : Nat → Int) (b : Bool) (W : World) : (Instr.build 52 #[(0, .int .i64 x), (1, .agg ([.int .i64 (M 0), .int .i64 (M 1), .int .i64 (M 2), .int .i64 (M 3), .int .i64 (M 4), .int .i64 (M 5), .int .i64 (M 6), .int .i64 (M 7), .int .i64 (M 8), .int .i64 (M 9), .int .i64 (M 10), .int .i64 (M 11)] : List Value).toArray), (2, .bool b)]).run Tryz.prog W = .ok (.agg (cSt ⟨x, M, b⟩).toArray) W := by kernel_rfl
/-- what the walk wants of a state's cells, and of a matrix's -/
structure SX (X : List Value) (s : Stt) : Prop where
  eq : X = cSt s
  len : X.length = 14
  size : (Tryz.prog.info? 52).map (·.size) = some X.length
  sizea : (Tryz.prog.info? 52).map (·.size) = some X.toArray.size
  one : ∀ u ∈ X, u.oneCell' = true
  onea : X.toArray.all (·.oneCell') = true
theorem sx_any (s : Stt) : SX (cSt s) s := ⟨rfl, rfl, by kernel_rfl, by kernel_rfl, cSt_one s, all_oneCell_toArray (cSt_one s)⟩
def lM (M : Nat → Int) : List Value := [.int .i64 (M 0), .int .i64 (M 1), .int .i64 (M 2), .int .i64 (M 3), .int .i64 (M 4), .int .i64 (M 5), .int .i64 (M 6), .int .i64 (M 7), .int .i64 (M 8), .int .i64 (M 9), .int .i64 (M 10), .int .i64 (M 11)]
structure MX (X : List Value) (M : Nat → Int) : Prop where
  eq : X = lM M
  len : X.length = 12
  size : (Tryz.prog.info? 46).map (·.size) = some X.length
  sizea : (Tryz.prog.info? 46).map (·.size) = some X.toArray.size
  onea : X.toArray.all (·.oneCell') = true
theorem lM_one (M : Nat → Int) : ∀ u ∈ lM M, u.oneCell' = true := fun u hu => by
  unfold lM at hu
  simp only [List.mem_cons, List.not_mem_nil, or_false] at hu
  rcases hu with h | h | h | h | h | h | h | h | h | h | h | h <;> (rw [h]; rfl)
theorem mx_any (M : Nat → Int) : MX (lM M) M := ⟨rfl, rfl, by kernel_rfl, by kernel_rfl, all_oneCell_toArray (lM_one M)⟩
def oneS (u : Stt) (n : Nd) (d : Nat) : Stt := if 16 < d then zSt else ⟨n.id, prodM u.wo n.pl, u.sh && !n.hid⟩
def oneE (u : Stt) (n : Nd) (d : Nat) : Int := if 16 < d then 7 else prodE2 u.wo n.pl
set_option maxHeartbeats 8000000 in
set_option maxRecDepth 100000 in
theorem gone_any (u : Stt) (n : Nd) (d : Nat) (hu : okM u.wo = true) (hp : okM n.pl = true) (hd : d ≤ 5000) (w : World) :
    Calls Tryz.prog 54 #[.agg (cSt u).toArray, .agg (cNd n).toArray, .int .i64 d] w fun e w' => ∃ Y, e = .returned (.tuple #[.agg (List.toArray Y), .int .i64 (oneE u n d)]) ∧ Y = cSt (oneS u n d) ∧ Below w.heap.size w w' := by
  have HTwo : Hid (∀ W, Calls Tryz.prog 74 #[.agg (lM u.wo).toArray, .agg (lM n.pl).toArray] W fun e w' => e = .returned (.tuple #[.agg (lM (prodM u.wo n.pl)).toArray, .int .i64 (prodE2 u.wo n.pl)]) ∧ Below W.heap.size W w') := Lib.hid (fun W => rtwo_yes u.wo n.pl W hu hp)
  have HRU : Hid (∀ W gg, Blk W gg 52 (cSt u).toArray → W.rangeAt gg 1 (lM u.wo) ∧ W.cell? ⟨gg, 13, none⟩ = some (.bool u.sh)) := Lib.hid (fun W gg k => ⟨blk_range k 1 12, k.cell 13⟩)
  have HRN : Hid (∀ W gg, Blk W gg 84 (cNd n).toArray → W.rangeAt gg 2 (lM n.pl) ∧ W.cell? ⟨gg, 0, none⟩ = some (.int .i64 n.id) ∧ W.cell? ⟨gg, 14, none⟩ = some (.bool n.hid)) := Lib.hid (fun W gg k => ⟨blk_range k 2 12, k.cell 0, k.cell 14⟩)
  have HMA := Lib.hid (mx_any u.wo)
  have HMB := Lib.hid (mx_any n.pl)
  have HMP := Lib.hid (mx_any (prodM u.wo n.pl))
  have HZ := Lib.hid (sx_any zSt)
  have HY := Lib.hid (sx_any (oneS u n d))
  have HBz := Lib.hid b10zero
  have HBs : Hid (∀ b W, (Instr.build 52 #[(0, .int .i64 n.id), (1, .agg (lM (prodM u.wo n.pl)).toArray), (2, .bool b)]).run Tryz.prog W = .ok (.agg (cSt ⟨n.id, prodM u.wo n.pl, b⟩).toArray) W) := Lib.hid (fun b W => b10state n.id (prodM u.wo n.pl) b W)
  have K0 : Hid (Blk (((w.alloc (.cells (cSt u).toArray 52)).alloc (.cells (cNd n).toArray 84)).alloc (.cells (cSt zSt).toArray 52)) w.heap.size 52 (cSt u).toArray ∧ Blk (((w.alloc (.cells (cSt u).toArray 52)).alloc (.cells (cNd n).toArray 84)).alloc (.cells (cSt zSt).toArray 52)) (w.heap.size + 1) 84 (cNd n).toArray ∧ Blk (((w.alloc (.cells (cSt u).toArray 52)).alloc (.cells (cNd n).toArray 84)).alloc (.cells (cSt zSt).toArray 52)) (w.heap.size + 2) 52 (cSt zSt).toArray ∧ Below w.heap.size w (((w.alloc (.cells (cSt u).toArray 52)).alloc (.cells (cNd n).toArray 84)).alloc (.cells (cSt zSt).toArray 52))) := Lib.hid (by
    have k1 := Blk.new w 52 (cSt u).toArray
    have k2 := Blk.new (w.alloc (.cells (cSt u).toArray 52)) 84 (cNd n).toArray
    have k3 := Blk.new ((w.alloc (.cells (cSt u).toArray 52)).alloc (.cells (cNd n).toArray 84)) 52 (cSt zSt).toArray
    have s1 : (w.alloc (.cells (cSt u).toArray 52)).heap.size = w.heap.size + 1 := by simp
    have s2 : ((w.alloc (.cells (cSt u).toArray 52)).alloc (.cells (cNd n).toArray 84)).heap.size = w.heap.size + 2 := by simp
    rw [s1] at k2
    rw [s2] at k3
    exact ⟨(k1.alloc _).alloc _, k2.alloc _, k3, bthen (bthen (alloc_below _ _) (alloc_below _ _)) (alloc_below _ _)⟩)
  have hEd : oneE u n d = if 16 < d then 7 else prodE2 u.wo n.pl := rfl
  have hSd : oneS u n d = if 16 < d then zSt else ⟨n.id, prodM u.wo n.pl, u.sh && !n.hid⟩ := rfl
  obtain ⟨XU, hXU⟩ : ∃ XU, XU = cSt u := ⟨_, rfl⟩
  obtain ⟨XN, hXN⟩ : ∃ XN, XN = cNd n := ⟨_, rfl⟩
  obtain ⟨XZ, hXZ⟩ : ∃ XZ, XZ = cSt zSt := ⟨_, rfl⟩
  obtain ⟨MA, hMA⟩ : ∃ MA, MA = lM u.wo := ⟨_, rfl⟩
  obtain ⟨MB, hMB⟩ : ∃ MB, MB = lM n.pl := ⟨_, rfl⟩
  obtain ⟨MP, hMP⟩ : ∃ MP, MP = lM (prodM u.wo n.pl) := ⟨_, rfl⟩
  rw [← hXU, ← hXN] at K0
  rw [← hXU, ← hXN]
  rw [← hXU] at HRU
  rw [← hXN] at HRN
  rw [← hMA] at HTwo HRU HMA
  rw [← hMB] at HTwo HRN HMB
  rw [← hMP] at HTwo HMP HBs
  by_cases h16 : 16 < d
  · rw [if_pos h16] at hEd hSd
    rw [hEd, hSd]
    have hd16 : (16 : Int) < (d : Int) := by omega
    clear hXU hXN hMA hMB hMP hEd hSd HTwo HRU HRN HMA HMB HMP HBs HY hu hp
    rw [← hXZ]
    go_enter Tryz.func54, Tryz.ntmps54
    go_upto_region 1 with fail
    refine fin (fun W => Blk W (w.heap.size + 2) 52 (cSt zSt).toArray ∧ Below w.heap.size w W) ⟨K0.out.2.2.1, K0.out.2.2.2⟩ ?_
    clear K0
    rintro W ⟨k6, hb⟩
    rw [← hXZ] at k6 HZ HBz
    have HT6 : Hid (W.there (w.heap.size + 2) 0 XZ.toArray.size) := Lib.hid (blk_there k6 (by rw [List.size_toArray]; omega))
    have L6 : Hid (Blk (W.setCells (w.heap.size + 2) 0 XZ) (w.heap.size + 2) 52 XZ.toArray) := Lib.hid (blk_over k6 rfl)
    have HB := Lib.hid hb
    have z6 := k6.lt
    clear k6 hb hXZ
    go_wp2_with (first | refine wpList_bld0f rfl 52 rfl (.agg XZ.toArray) HBz.out ?_ | refine wpList_store_mid rfl 52 (.tmp 6) (.tmp 12) rfl (w.heap.size + 2) 0 XZ.toArray rfl rfl HT6.out HZ.out.sizea HZ.out.onea ?_)
    refine fin (fun W => Blk W (w.heap.size + 2) 52 XZ.toArray ∧ Below w.heap.size w W) ⟨L6.out, below_setCells _ HB.out (by omega)⟩ ?_
    rintro W2 ⟨kr, hb⟩
    have hl := run_loadVar_mid W2 (w.heap.size + 2) 0 52 XZ _ (blk_whole kr) Tryz.underlying52 rfl HZ.out.size
    try simp only [Go.Act.put, List.setIfInBounds_toArray, List.set_cons_zero, List.set_cons_succ]
    exact bodyPost_ret (v := .tuple #[.agg XZ.toArray, .int .i64 7]) (results_cell2 Tryz.results54 rfl rfl hl) rfl ⟨XZ, rfl, rfl, hb⟩
  · rw [if_neg h16] at hEd hSd
    rw [hEd]
    have hd16 : ¬ (16 : Int) < (d : Int) := by omega
    obtain ⟨XY, hXY⟩ : ∃ XY, XY = cSt (oneS u n d) := ⟨_, rfl⟩
    have HBs2 : Hid (∀ W, (Instr.build 52 #[(0, .int .i64 n.id), (1, .agg MP.toArray), (2, .bool (u.sh && !n.hid))]).run Tryz.prog W = .ok (.agg XY.toArray) W) := Lib.hid (fun W => by rw [hXY, hSd]; exact HBs.out _ W)
    rw [← hXY] at HY ⊢
    obtain ⟨E, hE⟩ : ∃ E, E = prodE2 u.wo n.pl := ⟨_, rfl⟩
    obtain ⟨x, hx⟩ : ∃ x, x = n.id := ⟨_, rfl⟩
    obtain ⟨sh, hsh⟩ : ∃ sh, sh = u.sh := ⟨_, rfl⟩
    obtain ⟨hd2, hhd⟩ : ∃ hd2, hd2 = n.hid := ⟨_, rfl⟩
    rw [← hE] at HTwo ⊢
    rw [← hx] at HRN HBs2
    rw [← hsh] at HRU HBs2
    rw [← hhd] at HRN HBs2
    clear hXU hXN hMA hMB hMP hEd hSd HZ HBz HBs hu hp hXY hE hx hsh hhd
    go_enter Tryz.func54, Tryz.ntmps54
    go_upto_region 1 with fail
    refine fin (fun W => Blk W w.heap.size 52 XU.toArray ∧ Blk W (w.heap.size + 1) 84 XN.toArray ∧ Blk W (w.heap.size + 2) 52 (cSt zSt).toArray ∧ Below w.heap.size w W) K0.out ?_
    clear K0
    rintro W ⟨k3, k4, k6, hb⟩
    rw [← hXZ] at k6
    have K3 := Lib.hid k3
    have K4 := Lib.hid k4
    have K6 := Lib.hid k6
    have HB := Lib.hid hb
    have R3 := Lib.hid (HRU.out W _ k3).1
    have R4 := Lib.hid (HRN.out W _ k4).1
    have z3 := k3.lt
    have z4 := k4.lt
    have HZL : Hid (XZ.length = 14) := Lib.hid (by rw [hXZ]; rfl)
    clear k3 k4 k6 hb hXZ
    go_wp2_with (first | refine wpList_load_mid rfl 46 (.tmp 14) rfl w.heap.size 1 rfl MA _ R3.out Tryz.underlying46 rfl HMA.out.size ?_ | refine wpList_load_mid rfl 46 (.tmp 16) rfl (w.heap.size + 1) 2 rfl MB _ R4.out Tryz.underlying46 rfl HMB.out.size ?_)
    refine (HTwo.out _).mono ?_
    rintro e w1 ⟨rfl, b1⟩
    replace K3 := Lib.hid (Blk.keep K3.out b1)
    replace K4 := Lib.hid (Blk.keep K4.out b1)
    replace K6 := Lib.hid (Blk.keep K6.out b1)
    replace HB := Lib.hid (bthen HB.out b1)
    clear b1 R3 R4 z3 z4 HTwo
    have KA := Lib.hid (Blk.new w1 46 (lM (fun _ => 0)).toArray)
    have HTA : Hid ((w1.alloc (.cells (lM (fun _ => 0)).toArray 46)).there w1.heap.size 0 MP.toArray.size) := Lib.hid (blk_there KA.out (by rw [List.size_toArray, HMP.out.len]; exact Nat.le_refl 12))
    have HBA : Hid (Below w1.heap.size w1 ((w1.alloc (.cells (lM (fun _ => 0)).toArray 46)).setCells w1.heap.size 0 MP)) := Lib.hid (below_setCells MP (alloc_below _ _) (Nat.le_refl _))
    have LA : Hid (Blk ((w1.alloc (.cells (lM (fun _ => 0)).toArray 46)).setCells w1.heap.size 0 MP) w1.heap.size 46 MP.toArray) := Lib.hid (blk_over KA.out (by rw [HMP.out.len]; rfl))
    go_upto_region 4 with (refine wpList_store_mid rfl 46 (.tmp 8) (.tmp 19) rfl w1.heap.size 0 MP.toArray rfl rfl HTA.out HMP.out.sizea HMP.out.onea ?_)
    refine fin (fun W => Blk W w1.heap.size 46 MP.toArray ∧ Blk W w.heap.size 52 XU.toArray ∧ Blk W (w.heap.size + 1) 84 XN.toArray ∧ Blk W (w.heap.size + 2) 52 XZ.toArray ∧ Below w.heap.size w W) ⟨LA.out, Blk.keep K3.out HBA.out, Blk.keep K4.out HBA.out, Blk.keep K6.out HBA.out, bthen HB.out HBA.out⟩ ?_
    obtain ⟨g8, hg8⟩ : ∃ g8, g8 = w1.heap.size := ⟨_, rfl⟩
    rw [← hg8]
    clear KA HTA HBA LA HB hg8 K3 K4 K6
    rintro W3 ⟨k8, k3, k4, k6, hb⟩
    have K8 := Lib.hid (blk_whole k8)
    obtain ⟨-, c13⟩ := HRU.out W3 _ k3
    obtain ⟨-, c0, c14⟩ := HRN.out W3 _ k4
    have z3 := k3.lt
    have z4 := k4.lt
    have z8 := k8.lt
    have z6 := k6.lt
    have HB5 := Lib.hid hb
    have HT6 : Hid (W3.there (w.heap.size + 2) 0 XY.toArray.size) := Lib.hid (blk_there k6 (by rw [List.size_toArray, HY.out.len, HZL.out]; exact Nat.le_refl 14))
    have L6 : Hid (Blk (W3.setCells (w.heap.size + 2) 0 XY) (w.heap.size + 2) 52 XY.toArray) := Lib.hid (blk_over k6 (by rw [HY.out.len, HZL.out]))
    clear k8 k3 k4 k6 hb
    cases sh with
    | false =>
      go_wp2_with (first | refine wpList_load_mid rfl 46 (.tmp 8) rfl g8 0 rfl MP _ K8.out Tryz.underlying46 rfl HMP.out.size ?_ | refine wpList_bld3f rfl 52 (.tmp 22) (.tmp 23) (.tmp 30) rfl (.int .i64 x) (.agg MP.toArray) (.bool false) (.agg XY.toArray) rfl rfl rfl HBs2.out ?_ | refine wpList_store_mid rfl 52 (.tmp 6) (.tmp 31) rfl (w.heap.size + 2) 0 XY.toArray rfl rfl HT6.out HY.out.sizea HY.out.onea ?_)
      refine fin (fun W => Blk W (w.heap.size + 2) 52 XY.toArray ∧ Below w.heap.size w W) ⟨L6.out, below_setCells _ HB5.out (by omega)⟩ ?_
      rintro W2 ⟨kr, hb⟩
      have hl := run_loadVar_mid W2 (w.heap.size + 2) 0 52 XY _ (blk_whole kr) Tryz.underlying52 rfl HY.out.size
      try simp only [Go.Act.put, List.setIfInBounds_toArray, List.set_cons_zero, List.set_cons_succ]
      exact bodyPost_ret (v := .tuple #[.agg XY.toArray, .int .i64 E]) (results_cell2 Tryz.results54 rfl rfl hl) rfl ⟨XY, rfl, rfl, hb⟩
    | true =>
      go_wp2_with (first | refine wpList_load_mid rfl 46 (.tmp 8) rfl g8 0 rfl MP _ K8.out Tryz.underlying46 rfl HMP.out.size ?_ | refine wpList_bld3f rfl 52 (.tmp 22) (.tmp 23) (.tmp 30) rfl (.int .i64 x) (.agg MP.toArray) (.bool (true && !hd2)) (.agg XY.toArray) rfl rfl (by simp [Act.eval, Act.put]) HBs2.out ?_ | refine wpList_store_mid rfl 52 (.tmp 6) (.tmp 31) rfl (w.heap.size + 2) 0 XY.toArray rfl rfl HT6.out HY.out.sizea HY.out.onea ?_)
      refine fin (fun W => Blk W (w.heap.size + 2) 52 XY.toArray ∧ Below w.heap.size w W) ⟨L6.out, below_setCells _ HB5.out (by omega)⟩ ?_
      rintro W2 ⟨kr, hb⟩
      have hl := run_loadVar_mid W2 (w.heap.size + 2) 0 52 XY _ (blk_whole kr) Tryz.underlying52 rfl HY.out.size
      try simp only [Go.Act.put, List.setIfInBounds_toArray, List.set_cons_zero, List.set_cons_succ]
      exact bodyPost_ret (v := .tuple #[.agg XY.toArray, .int .i64 E]) (results_cell2 Tryz.results54 rfl rfl hl) rfl ⟨XY, rfl, rfl, hb⟩
end Go.Proofs.YtdndafdninnjfaaGreat
