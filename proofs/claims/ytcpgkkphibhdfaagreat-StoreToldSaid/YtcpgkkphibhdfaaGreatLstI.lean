/-
  The landed store: what Put, Cut and Despawn answer.
-/
import Derived.Test.YtcpgkkphibhdfaaGreatLstH
namespace Go.Proofs.YtcpgkkphibhdfaaGreat
open Go.RowKit

set_option maxHeartbeats 2000000 in
set_option maxRecDepth 100000 in
theorem lput_any {w : World} {g : Nat} {F : Nat → Prop} {S : St} (h0 : LSB w g F S) (hW : WS S) (hB : Bd S 1000) (id : Int) (Q : PT) (a : Option Addr) (n cap : Nat) (ks : List Int) (row : Row w a n ks) :
    Calls Tryz.prog 21 #[.pointer (some ⟨g, 0, none⟩), .int .i64 id, .agg (pl Q).toArray, .slice a n cap] w fun e w' => e = .returned (.int .i64 (puE S id Q ks)) ∧ Chg LSB w w' g F (puS S id Q ks) := by
  have hW1 : Below w.heap.size w ((w.alloc (.cells (pl Q).toArray 44)).alloc (.cells #[.slice a n cap] 45)) := bthen (alloc_below _ _) (alloc_below _ _)
  have HRm : Hid (Calls Tryz.prog 52 #[.pointer (some ⟨g, 0, none⟩), .int .i64 id, .func (.func 53) #[] #[.pointer (some ⟨w.heap.size, 0, none⟩), .pointer (some ⟨w.heap.size + 1, 0, none⟩)]] ((w.alloc (.cells (pl Q).toArray 44)).alloc (.cells #[.slice a n cap] 45)) fun e w' => e = .returned (.int .i64 (puE S id Q ks)) ∧ Chg LSB w w' g F (puS S id Q ks)) := Lib.hid (by
    have k7 : Blk ((w.alloc (.cells (pl Q).toArray 44)).alloc (.cells #[.slice a n cap] 45)) w.heap.size 44 (pl Q).toArray := Blk.keep (Blk.new w _ _) (alloc_below _ _)
    have k8 : ((w.alloc (.cells (pl Q).toArray 44)).alloc (.cells #[.slice a n cap] 45)).cell? ⟨w.heap.size + 1, 0, none⟩ = some (.slice a n cap) := by
      have := (Blk.new (w.alloc (.cells (pl Q).toArray 44)) 45 #[.slice a n cap]).cell 0
      rwa [show (w.alloc (.cells (pl Q).toArray 44)).heap.size = w.heap.size + 1 by simp] at this
    refine (lremake_any (h0.keep hW1) hW hB id 53 _ (withE (getP S id) Q ks) (withV (getP S id) Q ks) enters_put1 (fun u q => put1_any (getP S id) Q w.heap.size (w.heap.size + 1) a n cap ks u (k7.keep q) (cell_keep k8 q) (row_keep (row_keep row hW1) q)) (fun hb he => ?_)).mono ?_
    · obtain ⟨i, _, hrt⟩ := pu_at (S := S) (id := id) (Q := Q) (ks := ks) (by unfold puE; rw [hb]; exact he)
      exact hrt
    · rintro e w' ⟨rfl, hc⟩
      have e2 : (if getB S id = true ∧ withE (getP S id) Q ks = 0 then layS S id (withV (getP S id) Q ks) else S) = puS S id Q ks := by
        unfold puS puE
        cases getB S id <;> simp
      rw [e2] at hc
      exact ⟨by unfold puE; rfl, hc.of hW1⟩)
  have HPX := Lib.hid (pxs Q)
  obtain ⟨X, hX⟩ : ∃ X, X = pl Q := ⟨_, rfl⟩
  rw [← hX] at HRm HPX ⊢
  clear hX hW1 h0 hW hB row
  go_enter Tryz.func21, Tryz.ntmps21
  go_wp2_with fail
  refine HRm.out.mono ?_
  rintro e w1 ⟨rfl, hc⟩
  have HC := Lib.hid hc
  clear hc
  go_wp2
  go_ret
  exact ⟨rfl, HC.out⟩
set_option maxHeartbeats 2000000 in
set_option maxRecDepth 100000 in
theorem lcut_any {w : World} {g : Nat} {F : Nat → Prop} {S : St} (h0 : LSB w g F S) (hW : WS S) (hB : Bd S 1000) (id : Int) (a : Option Addr) (n cap : Nat) (ks : List Int) (row : Row w a n ks) :
    Calls Tryz.prog 22 #[.pointer (some ⟨g, 0, none⟩), .int .i64 id, .slice a n cap] w fun e w' => e = .returned (.int .i64 (cuE S id ks)) ∧ Chg LSB w w' g F (cuS S id ks) := by
  have hW1 : Below w.heap.size w (w.alloc (.cells #[.slice a n cap] 45)) := alloc_below _ _
  have HRm : Hid (Calls Tryz.prog 52 #[.pointer (some ⟨g, 0, none⟩), .int .i64 id, .func (.func 55) #[] #[.pointer (some ⟨w.heap.size, 0, none⟩)]] (w.alloc (.cells #[.slice a n cap] 45)) fun e w' => e = .returned (.int .i64 (cuE S id ks)) ∧ Chg LSB w w' g F (cuS S id ks)) := Lib.hid (by
    have k8 : (w.alloc (.cells #[.slice a n cap] 45)).cell? ⟨w.heap.size, 0, none⟩ = some (.slice a n cap) := (Blk.new w 45 #[.slice a n cap]).cell 0
    refine (lremake_any (h0.keep hW1) hW hB id 55 _ (woutE (getP S id) ks) (woutV (getP S id) ks) enters_cut1 (fun u q => cut1_any (getP S id) w.heap.size a n cap ks u (cell_keep k8 q) (row_keep (row_keep row hW1) q)) (fun hb he => ?_)).mono ?_
    · obtain ⟨i, _, hrt⟩ := cu_at (S := S) (id := id) (ks := ks) (by unfold cuE; rw [hb]; exact he)
      exact hrt
    · rintro e w' ⟨rfl, hc⟩
      have e2 : (if getB S id = true ∧ woutE (getP S id) ks = 0 then layS S id (woutV (getP S id) ks) else S) = cuS S id ks := by
        unfold cuS cuE
        cases getB S id <;> simp
      rw [e2] at hc
      exact ⟨by unfold cuE; rfl, hc.of hW1⟩)
  clear hW1 h0 hW hB row
  go_enter Tryz.func22, Tryz.ntmps22
  go_wp2_with fail
  refine HRm.out.mono ?_
  rintro e w1 ⟨rfl, hc⟩
  have HC := Lib.hid hc
  clear hc
  go_wp2
  go_ret
  exact ⟨rfl, HC.out⟩

theorem bs_going (x y : Int) (W : World) : (Instr.buildSlice 76 1 #[(0, .agg #[.int .i64 x, .int .i64 y])]).run Tryz.prog W = .ok (.slice (some ⟨W.heap.size, 0, none⟩) 1 1) (W.alloc (.cells ([.int .i64 x, .int .i64 y] : List Value).toArray 111)) := by kernel_rfl
theorem ginfo : (Tryz.prog.info? 111).map (fun i => (i.zero, i.size, i.bytes)) = some (some (.agg #[.int .i64 0, .int .i64 0]), 2, 16) := by kernel_rfl
theorem gone9 (x y : Int) : ∀ u ∈ ([.int .i64 x, .int .i64 y] : List Value), u.oneCell' = true := fun u hu => by
  simp only [List.mem_cons, List.not_mem_nil, or_false] at hu
  rcases hu with rfl | rfl <;> rfl
/-- a going more, stored -/
theorem LM.gone_ {W Wb w1 : World} {g p mb gu n cap : Nat} {S : St} {ls lt : Nat → Int} {ts : Nat → Option Nat} {Lf : Nat → Nat → Prop} {gv : Value} {lab : Nat → Nat} {F : Nat → Prop} {l : List (Int × Int)} (h : LM W g S p mb ls lt ts Lf gv lab) (hF : ∀ b, F b ↔ lfoot g p mb Lf gv b) (hb : Below W.heap.size W Wb) (hg : Wb.grownBy w1 gv.ownBlock)
    (hc : ColG w1 (.slice (some ⟨gu, 0, none⟩) n cap) l) (hu : gv.ownBlock = some gu ∨ Wb.heap.size ≤ gu) :
    CM W (w1.setCell ⟨g, 515, none⟩ (.slice (some ⟨gu, 0, none⟩) n cap)) g F { S with go := l } ls lt ∧ w1.rowIs g 78 516 (lF p mb S.now ls lt gv) := by
  have hgl := h.row.lt
  have hvg : gv.ownBlock ≠ some g := fun e => by have h1 := h.lv g e; rw [h.lg] at h1; omega
  have hst : ∀ b, b ≠ g → (w1.setCell ⟨g, 515, none⟩ (.slice (some ⟨gu, 0, none⟩) n cap)).heap[b]? = w1.heap[b]? := fun b c => Go.Deep.blk_setCell_other _ _ _ _ c
  have hr1 : w1.rowIs g 78 516 (lF p mb S.now ls lt gv) := (h.keep hb).row.of_block (hg.block g (h.keep hb).row.lt (fun e => hvg e.symm))
  have hgug : gu ≠ g := fun e => by
    rcases hu with c | c
    · exact hvg (e ▸ c)
    · have := hb.size; omega
  refine ⟨LM.went (w' := w1.setCell ⟨g, 515, none⟩ (.slice (some ⟨gu, 0, none⟩) n cap)) (gv' := .slice (some ⟨gu, 0, none⟩) n cap) h hF ⟨hg.os.trans hb.os, hg.tape.trans hb.tape, hg.output.trans hb.output, Nat.le_trans hb.size (by simpa [World.setCell] using hg.size), fun b hl hn => ?_⟩ ((hr1.set 515 _).congr (fun j hj => lF_upGo _ j hj)) (ColX.same hc (fun b e => hst b (fun c => ?_))) (fun b e => ?_), hr1⟩
  · rw [hst b (fun c => hn (Or.inl c)), hg.block b (Nat.lt_of_lt_of_le hl hb.size) (fun e => hn (Or.inr e.symm)), hb.block b hl]
  · have : gu = b := by simpa [Value.ownBlock] using e
    omega
  · have e' : gu = b := by simpa [Value.ownBlock] using e
    subst e'
    rcases hu with c | c
    · exact Or.inl c
    · exact Or.inr (Nat.le_trans hb.size c)
set_option maxHeartbeats 8000000 in
set_option maxRecDepth 100000 in
theorem ldespawn_any {w : World} {g : Nat} {F : Nat → Prop} {S : St} (h0 : LSB w g F S) (hW : WS S) (hB : Bd S 1000) (id : Int) :
    Calls Tryz.prog 20 #[.pointer (some ⟨g, 0, none⟩), .int .i64 id] w fun e w' => e = .returned (.int .i64 (deE S id)) ∧ Chg LSB w w' g F (deS S id) := by
  have H0 := Lib.hid h0
  have hg := h0.inH
  obtain ⟨p, c0, hlv, _⟩ := h0.live
  have HLv := Lib.hid (hlv id)
  clear hlv
  cases ha : atS S id with
  | none =>
    have e4 : Hid (deE S id = 4) := Lib.hid (by unfold deE; rw [show getB S id = false by unfold getB; rw [ha]; rfl]; rfl)
    have e5 : Hid (deS S id = S) := Lib.hid (by unfold deS; rw [ha])
    rw [at_dead hW ha] at HLv
    clear ha h0 hW hB
    go_enter Tryz.func20, Tryz.ntmps20
    go_wp2_with fail
    refine HLv.out.mono ?_
    rintro e w1 ⟨rfl, b1⟩
    have B1 := Lib.hid b1
    clear b1
    go_wp2
    go_ret
    exact ⟨by rw [e4.out]; rfl, by rw [e5.out]; exact LSB.still H0.out B1.out⟩
  | some i =>
    have e4 : Hid (deE S id = 0) := Lib.hid (by unfold deE; rw [show getB S id = true by unfold getB; rw [ha]; rfl]; rfl)
    have hd5 : deS S id = { S with T := upf S.T i (tcuR (S.T i) (findI (S.T i) id)), G := drG S.G S.L id, L := drL S.G S.L id, go := S.go ++ [(id, S.now)] } := by unfold deS; rw [ha]
    rw [at_live hW ha] at HLv
    obtain ⟨ls, lt, ⟨p', mb, ts, Lf, gv, lab, h, hF⟩, hI⟩ := h0
    obtain ⟨ho, hi, hls, a, hts⟩ := h.there hI hW ha
    have hR := hB.2.2.1 i hi
    obtain ⟨hW', hin⟩ := ws_despawn hW ha
    have HI' : Hid (LI (deS S id) ls lt) := Lib.hid (hI.cut hW hW' hin (by rw [hd5]) (by rw [hd5]) (by rw [hd5]))
    have HOk := Lib.hid hW.ok
    have HRm : Hid (∀ u, Below w.heap.size w u → Calls Tryz.prog 50 #[.pointer (some ⟨g, 0, none⟩), .int .i64 id] u fun e w1 => e = .returned (.tuple #[]) ∧ ∃ p, w1.cell? ⟨g, 0, none⟩ = some (.pointer (some ⟨p, 0, none⟩)) ∧ g < w1.heap.size ∧ Calls Tryz.prog 51 #[.pointer (some ⟨p, 0, none⟩), .int .i64 id] w1 fun e w2 => ∃ z, e = .returned (.bool z) ∧ CM w w2 g F { S with T := upf S.T i (tcuR (S.T i) (findI (S.T i) id)), G := drG S.G S.L id, L := drL S.G S.L id } ls lt) := Lib.hid (fun u q => by
      refine (lremove_any (F := F) (h.keep q) hF id ho hi hls hts hR).mono ?_
      rintro e w1 ⟨rfl, F1, ⟨p1, mb1, ts1, Lf1, gv1, lab1, h1, hF1⟩, hf1, hn1⟩
      refine ⟨rfl, p1, h1.c0, h1.row.lt, ?_⟩
      refine (qdrop p1 S.room S.G S.L id w1 HOk.out.gen h1.pool).mono ?_
      rintro e w2 ⟨rfl, hr2, hg2⟩
      exact ⟨_, rfl, (CM.join hf1 hn1 (h1.pooled hF1 hg2 hr2)).of q⟩)
    have HD5 := Lib.hid hd5
    have hgl := hB.2.1
    clear ha H0 h hF hI hW' hin hd5 hW hB ho hls hts hR
    go_enter Tryz.func20, Tryz.ntmps20
    go_wp2_with fail
    refine HLv.out.mono ?_
    rintro e w1 ⟨rfl, b1⟩
    have B1 := Lib.hid b1
    clear b1
    go_wp2_with fail
    refine (HRm.out _ B1.out).mono ?_
    rintro e w2 ⟨rfl, p2, cp, zg2, hdr⟩
    have HDr := Lib.hid hdr
    clear hdr
    go_wp2_with fail
    refine HDr.out.mono ?_
    rintro e w3 ⟨z3, rfl, hcm⟩
    obtain ⟨F3, ⟨p3, mb3, ts3, Lf3, gv3, lab3, h3, hF3⟩, hf3, hn3⟩ := hcm
    obtain ⟨nw, hnw⟩ : ∃ nw, nw = S.now := ⟨_, rfl⟩
    have HNw := Lib.hid hnw
    have c2 : w3.cell? ⟨g, 2, none⟩ = some (.int .i64 nw) := by rw [hnw]; exact h3.c2
    have c515 := h3.c515
    have hg3 := h3.row.lt
    have hD : LM w3.drew g { S with T := upf S.T i (tcuR (S.T i) (findI (S.T i) id)), G := drG S.G S.L id, L := drL S.G S.L id } p3 mb3 ls lt ts3 Lf3 gv3 lab3 := h3.keep (bdrewn (Below.refl _ _))
    have HD := Lib.hid hD
    have HF3 := Lib.hid (And.intro hF3 (And.intro hf3 hn3))
    have CW := Lib.hid (And.intro c2 c515)
    have CB : Hid ((w3.drew.alloc (.cells ([.int .i64 id, .int .i64 nw] : List Value).toArray 111)).cell? ⟨g, 515, none⟩ = some gv3 ∧ (w3.drew.alloc (.cells ([.int .i64 id, .int .i64 nw] : List Value).toArray 111)).cell? ⟨g, 2, none⟩ = some (.int .i64 nw)) := Lib.hid ⟨cell_keep (w := w3.drew) c515 (alloc_below _ _), cell_keep (w := w3.drew) c2 (alloc_below _ _)⟩
    clear h3 hF3 hf3 hn3 hnw c2 c515 hD
    go_upto_region 7 with fail
    refine wp_region_held_drew (S := fun w' => w'.cell? ⟨g, 2, none⟩ = some (.int .i64 nw)) (by kernel_rfl) (CW.out.1) (fun hHeld => ?_)
    refine wpAnyH_take (i := 0) (v := ?_) rfl (by kernel_rfl) (by kernel_rfl) (by kernel_rfl) (fun _ _ _ h => h) (Or.inl ⟨by rfl, ?_⟩) hHeld ?_
    rotate_left
    · intro w hSw
      go_simp
      with_reducible rfl
    simp only [Act.put, List.getElem_toArray, List.getElem_cons_zero, List.setIfInBounds_toArray, List.set_cons_zero, List.set_cons_succ]
    refine wpAnyH_take (i := 1) (v := ?_) rfl (by kernel_rfl) (by kernel_rfl) (by kernel_rfl) (fun _ _ _ h => h) (Or.inl ⟨by rfl, ?_⟩) hHeld ?_
    rotate_left
    · intro w hSw
      go_simp
      with_reducible rfl
    simp only [Act.put, List.getElem_toArray, List.getElem_cons_zero, List.getElem_cons_succ, List.setIfInBounds_toArray, List.set_cons_zero, List.set_cons_succ]
    refine wpAnyH_take (i := 2) (v := ?_) rfl (by kernel_rfl) (by kernel_rfl) (by kernel_rfl) (fun _ _ _ h => h) (Or.inl ⟨by rfl, ?_⟩) hHeld ?_
    rotate_left
    · intro w hSw
      go_simp
      with_reducible rfl
    simp only [Act.put, List.getElem_toArray, List.getElem_cons_zero, List.getElem_cons_succ, List.setIfInBounds_toArray, List.set_cons_zero, List.set_cons_succ]
    refine wpAnyH_take (i := 3) (v := ?_) rfl (by kernel_rfl) (by kernel_rfl) (by kernel_rfl) (fun _ _ _ h => h) (Or.inl ⟨by rfl, ?_⟩) hHeld ?_
    rotate_left
    · intro w hSw
      go_simp
      with_reducible rfl
    simp only [Act.put, List.getElem_toArray, List.getElem_cons_zero, List.getElem_cons_succ, List.setIfInBounds_toArray, List.set_cons_zero, List.set_cons_succ]
    refine wpAnyH_take (i := 5) (v := ?_) rfl (by kernel_rfl) (by kernel_rfl) (by kernel_rfl) (fun _ _ _ h => h) (Or.inl ⟨by rfl, ?_⟩) hHeld ?_
    rotate_left
    · intro w hSw
      go_simp
      with_reducible rfl
    simp only [Act.put, List.getElem_toArray, List.getElem_cons_zero, List.getElem_cons_succ, List.setIfInBounds_toArray, List.set_cons_zero, List.set_cons_succ]
    refine wpAnyH_take (i := 6) (v := ?_) rfl (by kernel_rfl) (by kernel_rfl) (by kernel_rfl) (fun _ _ _ h => h) (Or.inl ⟨by rfl, ?_⟩) hHeld ?_
    rotate_left
    · intro w hSw
      go_simp
      with_reducible rfl
    simp only [Act.put, List.getElem_toArray, List.getElem_cons_zero, List.getElem_cons_succ, List.setIfInBounds_toArray, List.set_cons_zero, List.set_cons_succ]
    refine wpAnyH_take (i := 7) (v := ?_) rfl (by kernel_rfl) (by kernel_rfl) (by kernel_rfl) (fun _ _ _ h => h) (Or.inl ⟨by rfl, ?_⟩) hHeld ?_
    rotate_left
    · intro w hSw
      go_simp
      with_reducible rfl
    simp only [Act.put, List.getElem_toArray, List.getElem_cons_zero, List.getElem_cons_succ, List.setIfInBounds_toArray, List.set_cons_zero, List.set_cons_succ]
    refine wpAnyH_take (i := 8) (v := ?_) rfl (by kernel_rfl) (by kernel_rfl) (by kernel_rfl) (fun _ _ _ h => h) (Or.inl ⟨by rfl, ?_⟩) hHeld ?_
    rotate_left
    · intro w hSw
      go_simp
      with_reducible rfl
    simp only [Act.put, List.getElem_toArray, List.getElem_cons_zero, List.getElem_cons_succ, List.setIfInBounds_toArray, List.set_cons_zero, List.set_cons_succ]
    refine wpAnyH_take (i := 9) (v := ?_) rfl (by kernel_rfl) (by kernel_rfl) (by kernel_rfl) (fun _ _ _ h => h) (Or.inl ⟨by rfl, ?_⟩) hHeld ?_
    rotate_left
    · intro w hSw
      go_simp
      with_reducible rfl
    simp only [Act.put, List.getElem_toArray, List.getElem_cons_zero, List.getElem_cons_succ, List.setIfInBounds_toArray, List.set_cons_zero, List.set_cons_succ]
    refine wpAnyH_take (i := 10) (v := ?_) rfl (by kernel_rfl) (by kernel_rfl) (by kernel_rfl) (fun _ _ _ h => h) (Or.inl ⟨by rfl, ?_⟩) hHeld ?_
    rotate_left
    · intro w hSw
      go_simp
      with_reducible rfl
    simp only [Act.put, List.getElem_toArray, List.getElem_cons_zero, List.getElem_cons_succ, List.setIfInBounds_toArray, List.set_cons_zero, List.set_cons_succ]
    refine wpAnyH_pair (i := 4) (j := 11) (v := gv3) (u := .slice (some ⟨w3.heap.size, 0, none⟩) 1 1) (w' := w3.drew.alloc (.cells ([.int .i64 id, .int .i64 nw] : List Value).toArray 111)) rfl rfl (by kernel_rfl) (by kernel_rfl) (by kernel_rfl) (by rfl) (by rfl) (by rfl) (by rfl) (exec_cell rfl rfl Tryz.underlying76 CW.out.2) (exec_bs rfl rfl (bs_going id nw _)) (exec_bs rfl rfl (bs_going id nw _)) (exec_cell rfl rfl Tryz.underlying76 CB.out.1) rfl hHeld CB.out.2 ?_
    simp only [Act.put, List.getElem_toArray, List.getElem_cons_zero, List.getElem_cons_succ, List.setIfInBounds_toArray, List.set_cons_zero, List.set_cons_succ]
    clear hHeld CW CB
    have hmm : (S.go.map mkG).length ≤ 2000 := by rw [List.length_map]; omega
    refine wpAnyH_ready (rs := [12]) (by kernel_rfl) (by simp) ?_
    refine AllReadyH.cons rfl (fun K hK => ?_) AllReadyH.nil
    rw [if_pos (by rfl)]
    refine wp_appC (.tmp 27) (.tmp 34) 76 111 2 16 (.agg #[.int .i64 0, .int .i64 0]) cG rfl Tryz.underlying76 ginfo rfl (by decide) (by decide) (fun _ => rfl) gv3 (S.go.map mkG) rfl ((HD.out.keep (alloc_below _ _)).gos) hmm (mkG (id, nw)) [.int .i64 id, .int .i64 nw] rfl (gone9 id nw) w3.heap.size (Blk.new _ _ _) rfl ?_
    intro gu gcap w4 hc hgr hat
    have hc' : ColG w4 (.slice (some ⟨gu, 0, none⟩) ((S.go.map mkG).length + 1) gcap) (S.go ++ [(id, nw)]) := by
      show ColX w4 _ 2 cG _ ((S.go ++ [(id, nw)]).map mkG)
      rw [List.map_append]; exact hc
    generalize (S.go.map mkG).length + 1 = nn at hc' ⊢
    obtain ⟨hcm4, hrow4⟩ := HD.out.gone_ HF3.out.1 (alloc_below _ _) hgr hc' hat
    have HCM : Hid (CM w (w4.setCell ⟨g, 515, none⟩ (.slice (some ⟨gu, 0, none⟩) nn gcap)) g F (deS S id) ls lt) := Lib.hid (by
      have h9 := hcm4
      rw [HNw.out] at h9
      rw [HD5.out]
      exact CM.join (Fr.behind HF3.out.2.1 (bdrewn (Below.refl _ _))) HF3.out.2.2 h9)
    have c4 : w4.cell? ⟨g, 2, none⟩ = some (.int .i64 nw) := by rw [hrow4.cell (by omega), HNw.out]; rfl
    have d4 : w4.cell? ⟨g, 515, none⟩ = some gv3 := by rw [hrow4.cell (by omega)]; rfl
    have f4 : w4.frozen? ⟨g, 515, none⟩ = false := hrow4.frozen _
    have hg4 : g < w4.heap.size := hrow4.lt
    have c5 : (w4.setCell ⟨g, 515, none⟩ (.slice (some ⟨gu, 0, none⟩) nn gcap)).cell? ⟨g, 2, none⟩ = some (.int .i64 nw) := by rw [(hrow4.set 515 _).cell (by omega), if_neg (by omega), HNw.out]; rfl
    clear hc hc' hgr hat hrow4 hcm4
    refine hK.out _ _ c4 (fun hHeld => ?_)
    clear hK K
    simp only [Act.put, List.getElem_toArray, List.getElem_cons_zero, List.getElem_cons_succ, List.setIfInBounds_toArray, List.set_cons_zero, List.set_cons_succ]
    refine wpAnyH_take (i := 13) (v := ?_) rfl (by kernel_rfl) (by kernel_rfl) (by kernel_rfl) (fun _ _ _ h => h) (Or.inl ⟨by rfl, ?_⟩) hHeld ?_
    rotate_left
    · intro w hSw
      go_simp
      with_reducible rfl
    simp only [Act.put, List.getElem_toArray, List.getElem_cons_zero, List.getElem_cons_succ, List.setIfInBounds_toArray, List.set_cons_zero, List.set_cons_succ]
    refine wpAnyH_take (i := 14) (v := ?_) rfl (by kernel_rfl) (by kernel_rfl) (by kernel_rfl) (fun _ _ _ h => h) (Or.inl ⟨by rfl, ?_⟩) hHeld ?_
    rotate_left
    · intro w hSw
      go_simp
      with_reducible rfl
    simp only [Act.put, List.getElem_toArray, List.getElem_cons_zero, List.getElem_cons_succ, List.setIfInBounds_toArray, List.set_cons_zero, List.set_cons_succ]
    refine wpAnyH_ready (rs := [15]) (by kernel_rfl) (by simp) ?_
    refine AllReadyH.cons rfl (fun K hK => ?_) AllReadyH.nil
    go_simp
    refine hK.out _ _ c5 (fun hHeld => ?_)
    clear hK K
    refine wpAnyH_done (by kernel_rfl) ?_ _
    clear hHeld
    refine fin (fun W => Chg LSB w W g F (deS S id)) (LSB.of_cm HCM.out HI'.out) ?_
    clear HCM c4 c5 d4 f4 hg4
    rintro W hch
    have HCh := Lib.hid hch
    clear hch
    go_wp2
    go_ret
    exact ⟨by rw [e4.out]; rfl, HCh.out⟩

end Go.Proofs.YtcpgkkphibhdfaaGreat
