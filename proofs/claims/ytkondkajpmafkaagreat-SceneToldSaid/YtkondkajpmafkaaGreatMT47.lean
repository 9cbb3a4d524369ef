/-
  5 texts in one file, each with its own heading.
-/
import Derived.Test.YtkondkajpmafkaaGreatMT46
/-
  The landed store: what Put, Cut and Despawn answer.
-/
namespace Go.Proofs.YtkondkajpmafkaaGreat
open Go.RowKit

set_option maxHeartbeats 2000000 in
set_option maxRecDepth 100000 in
theorem lput_any {w : World} {g : Nat} {F : Nat → Prop} {S : St} (h0 : LSB w g F S) (hW : WS S) (hB : Bd S 1000) (id : Int) (Q : PT) (a : Option Addr) (n cap : Nat) (ks : List Int) (row : Row w a n ks) :
    Calls Tryz.prog 63 #[.pointer (some ⟨g, 0, none⟩), .int .i64 id, .agg (pl Q).toArray, .slice a n cap] w fun e w' => e = .returned (.int .i64 (puE S id Q ks)) ∧ Chg LSB w w' g F (puS S id Q ks) := by
  have hW1 : Below w.heap.size w ((w.alloc (.cells (pl Q).toArray 43)).alloc (.cells #[.slice a n cap] 44)) := bthen (alloc_below _ _) (alloc_below _ _)
  have HRm : Hid (Calls Tryz.prog 99 #[.pointer (some ⟨g, 0, none⟩), .int .i64 id, .func (.func 100) #[] #[.pointer (some ⟨w.heap.size, 0, none⟩), .pointer (some ⟨w.heap.size + 1, 0, none⟩)]] ((w.alloc (.cells (pl Q).toArray 43)).alloc (.cells #[.slice a n cap] 44)) fun e w' => e = .returned (.int .i64 (puE S id Q ks)) ∧ Chg LSB w w' g F (puS S id Q ks)) := Lib.hid (by
    have k7 : Blk ((w.alloc (.cells (pl Q).toArray 43)).alloc (.cells #[.slice a n cap] 44)) w.heap.size 43 (pl Q).toArray := Blk.keep (Blk.new w _ _) (alloc_below _ _)
    have k8 : ((w.alloc (.cells (pl Q).toArray 43)).alloc (.cells #[.slice a n cap] 44)).cell? ⟨w.heap.size + 1, 0, none⟩ = some (.slice a n cap) := by
      have := (Blk.new (w.alloc (.cells (pl Q).toArray 43)) 44 #[.slice a n cap]).cell 0
      rwa [show (w.alloc (.cells (pl Q).toArray 43)).heap.size = w.heap.size + 1 by simp] at this
    refine (lremake_any (h0.keep hW1) hW hB id 100 _ (withE (getP S id) Q ks) (withV (getP S id) Q ks) enters_put1 (fun u q => put1_any (getP S id) Q w.heap.size (w.heap.size + 1) a n cap ks u (k7.keep q) (cell_keep k8 q) (row_keep (row_keep row hW1) q)) (fun hb he => ?_)).mono ?_
    · obtain ⟨i, _, hrt⟩ := pu_at (S := S) (id := id) (Q := Q) (ks := ks) (by unfold puE; rw [hb]; exact he)
      exact hrt
    · rintro e w' ⟨rfl, hc⟩
      have e2 : (if getB S id = true ∧ withE (getP S id) Q ks = 0 then layS S id (withV (getP S id) Q ks) else S) = puS S id Q ks := by
        unfold puS puE
        cases getB S id <;> simp
      rw [e2] at hc
      exact ⟨by unfold puE; rfl, hc.of hW1⟩)
  have HPX := Lib.hid (pxs Q)
  obtain ⟨X, hX⟩ : ∃ X, X = pl Q := ⟨_, rfl⟩
  rw [← hX] at HRm HPX ⊢
  clear hX hW1 h0 hW hB row
  go_enter Tryz.func63, Tryz.ntmps63
  go_wp2_with fail
  refine HRm.out.mono ?_
  rintro e w1 ⟨rfl, hc⟩
  have HC := Lib.hid hc
  clear hc
  go_wp2
  go_ret
  exact ⟨rfl, HC.out⟩
set_option maxHeartbeats 2000000 in
set_option maxRecDepth 100000 in
theorem lcut_any {w : World} {g : Nat} {F : Nat → Prop} {S : St} (h0 : LSB w g F S) (hW : WS S) (hB : Bd S 1000) (id : Int) (a : Option Addr) (n cap : Nat) (ks : List Int) (row : Row w a n ks) :
    Calls Tryz.prog 64 #[.pointer (some ⟨g, 0, none⟩), .int .i64 id, .slice a n cap] w fun e w' => e = .returned (.int .i64 (cuE S id ks)) ∧ Chg LSB w w' g F (cuS S id ks) := by
  have hW1 : Below w.heap.size w (w.alloc (.cells #[.slice a n cap] 44)) := alloc_below _ _
  have HRm : Hid (Calls Tryz.prog 99 #[.pointer (some ⟨g, 0, none⟩), .int .i64 id, .func (.func 102) #[] #[.pointer (some ⟨w.heap.size, 0, none⟩)]] (w.alloc (.cells #[.slice a n cap] 44)) fun e w' => e = .returned (.int .i64 (cuE S id ks)) ∧ Chg LSB w w' g F (cuS S id ks)) := Lib.hid (by
    have k8 : (w.alloc (.cells #[.slice a n cap] 44)).cell? ⟨w.heap.size, 0, none⟩ = some (.slice a n cap) := (Blk.new w 44 #[.slice a n cap]).cell 0
    refine (lremake_any (h0.keep hW1) hW hB id 102 _ (woutE (getP S id) ks) (woutV (getP S id) ks) enters_cut1 (fun u q => cut1_any (getP S id) w.heap.size a n cap ks u (cell_keep k8 q) (row_keep (row_keep row hW1) q)) (fun hb he => ?_)).mono ?_
    · obtain ⟨i, _, hrt⟩ := cu_at (S := S) (id := id) (ks := ks) (by unfold cuE; rw [hb]; exact he)
      exact hrt
    · rintro e w' ⟨rfl, hc⟩
      have e2 : (if getB S id = true ∧ woutE (getP S id) ks = 0 then layS S id (woutV (getP S id) ks) else S) = cuS S id ks := by
        unfold cuS cuE
        cases getB S id <;> simp
      rw [e2] at hc
      exact ⟨by unfold cuE; rfl, hc.of hW1⟩)
  clear hW1 h0 hW hB row
  go_enter Tryz.func64, Tryz.ntmps64
  go_wp2_with fail
  refine HRm.out.mono ?_
  rintro e w1 ⟨rfl, hc⟩
  have HC := Lib.hid hc
  clear hc
  go_wp2
  go_ret
  exact ⟨rfl, HC.out⟩

theorem bs_going (x y : Int) (W : World) : (Instr.buildSlice 116 1 #[(0, .agg #[.int .i64 x, .int .i64 y])]).run Tryz.prog W = .ok (.slice (some ⟨W.heap.size, 0, none⟩) 1 1) (W.alloc (.cells ([.int .i64 x, .int .i64 y] : List Value).toArray 156)) := by kernel_rfl
theorem ginfo : (Tryz.prog.info? 156).map (fun i => (i.zero, i.size, i.bytes)) = some (some (.agg #[.int .i64 0, .int .i64 0]), 2, 16) := by kernel_rfl
theorem gone9 (x y : Int) : ∀ u ∈ ([.int .i64 x, .int .i64 y] : List Value), u.oneCell' = true := fun u hu => by
  simp only [List.mem_cons, List.not_mem_nil, or_false] at hu
  rcases hu with rfl | rfl <;> rfl
theorem LM.gone_ {W Wb w1 : World} {g p mb gu n cap : Nat} {S : St} {ls lt : Nat → Int} {ts : Nat → Option Nat} {Lf : Nat → Nat → Prop} {gv : Value} {lab : Nat → Nat} {F : Nat → Prop} {l : List (Int × Int)} (h : LM W g S p mb ls lt ts Lf gv lab) (hF : ∀ b, F b ↔ lfoot g p mb Lf gv b) (hb : Below W.heap.size W Wb) (hg : Wb.grownBy w1 gv.ownBlock)
    (hc : ColG w1 (.slice (some ⟨gu, 0, none⟩) n cap) l) (hu : gv.ownBlock = some gu ∨ Wb.heap.size ≤ gu) :
    CM W (w1.setCell ⟨g, 515, none⟩ (.slice (some ⟨gu, 0, none⟩) n cap)) g F { S with go := l } ls lt ∧ w1.rowIs g 118 516 (lF p mb S.now ls lt gv) := by
  have hgl := h.row.lt
  have hvg : gv.ownBlock ≠ some g := fun e => by have h1 := h.lv g e; rw [h.lg] at h1; omega
  have hst : ∀ b, b ≠ g → (w1.setCell ⟨g, 515, none⟩ (.slice (some ⟨gu, 0, none⟩) n cap)).heap[b]? = w1.heap[b]? := fun b c => Go.Deep.blk_setCell_other _ _ _ _ c
  have hr1 : w1.rowIs g 118 516 (lF p mb S.now ls lt gv) := (h.keep hb).row.of_block (hg.block g (h.keep hb).row.lt (fun e => hvg e.symm))
  have hgug : gu ≠ g := fun e => by
    rcases hu with c | c
    · exact hvg (e ▸ c)
    · have := hb.size; omega
  refine ⟨LM.went (w' := w1.setCell ⟨g, 515, none⟩ (.slice (some ⟨gu, 0, none⟩) n cap)) (gv' := .slice (some ⟨gu, 0, none⟩) n cap) h hF ⟨hg.os.trans hb.os, hg.tape.trans hb.tape, hg.output.trans hb.output, Nat.le_trans hb.size (by simpa [World.setCell] using hg.size), fun b hl hn => ?_⟩ ((hr1.set 515 _).congr (fun j hj => lF_upGo _ j hj)) (ColX.same hc (fun b e => hst b (fun c => ?_))) (fun b e => ?_), hr1⟩
  · rw [hst b (fun c => hn (Or.inl c)), hg.block b (Nat.lt_of_lt_of_le hl hb.size) (fun e => hn (Or.inr e.symm)), hb.block b hl]
  · have : gu = b := by simpa [Value.ownBlock] using e
    omega
  · have e' : gu = b := by simpa [Value.ownBlock] using e
    subst e'
    rcases hu with c | c
    · exact Or.inl c
    · exact Or.inr (Nat.le_trans hb.size c)
set_option maxHeartbeats 8000000 in
set_option maxRecDepth 100000 in
theorem ldespawn_any {w : World} {g : Nat} {F : Nat → Prop} {S : St} (h0 : LSB w g F S) (hW : WS S) (hB : Bd S 1000) (id : Int) :
    Calls Tryz.prog 60 #[.pointer (some ⟨g, 0, none⟩), .int .i64 id] w fun e w' => e = .returned (.int .i64 (deE S id)) ∧ Chg LSB w w' g F (deS S id) := by
  have H0 := Lib.hid h0
  have hg := h0.inH
  obtain ⟨p, c0, hlv, _⟩ := h0.live
  have HLv := Lib.hid (hlv id)
  clear hlv
  cases ha : atS S id with
  | none =>
    have e4 : Hid (deE S id = 4) := Lib.hid (by unfold deE; rw [show getB S id = false by unfold getB; rw [ha]; rfl]; rfl)
    have e5 : Hid (deS S id = S) := Lib.hid (by unfold deS; rw [ha])
    rw [at_dead hW ha] at HLv
    clear ha h0 hW hB
    go_enter Tryz.func60, Tryz.ntmps60
    go_wp2_with fail
    refine HLv.out.mono ?_
    rintro e w1 ⟨rfl, b1⟩
    have B1 := Lib.hid b1
    clear b1
    go_wp2
    go_ret
    exact ⟨by rw [e4.out]; rfl, by rw [e5.out]; exact LSB.still H0.out B1.out⟩
  | some i =>
    have e4 : Hid (deE S id = 0) := Lib.hid (by unfold deE; rw [show getB S id = true by unfold getB; rw [ha]; rfl]; rfl)
    have hd5 : deS S id = { S with T := upf S.T i (tcuR (S.T i) (findI (S.T i) id)), G := drG S.G S.L id, L := drL S.G S.L id, go := S.go ++ [(id, S.now)] } := by unfold deS; rw [ha]
    rw [at_live hW ha] at HLv
    obtain ⟨ls, lt, ⟨p', mb, ts, Lf, gv, lab, h, hF⟩, hI⟩ := h0
    obtain ⟨ho, hi, hls, a, hts⟩ := h.there hI hW ha
    have hR := hB.2.2.1 i hi
    obtain ⟨hW', hin⟩ := ws_despawn hW ha
    have HI' : Hid (LI (deS S id) ls lt) := Lib.hid (hI.cut hW hW' hin (by rw [hd5]) (by rw [hd5]) (by rw [hd5]))
    have HOk := Lib.hid hW.ok
    have HRm : Hid (∀ u, Below w.heap.size w u → Calls Tryz.prog 97 #[.pointer (some ⟨g, 0, none⟩), .int .i64 id] u fun e w1 => e = .returned (.tuple #[]) ∧ ∃ p, w1.cell? ⟨g, 0, none⟩ = some (.pointer (some ⟨p, 0, none⟩)) ∧ g < w1.heap.size ∧ Calls Tryz.prog 98 #[.pointer (some ⟨p, 0, none⟩), .int .i64 id] w1 fun e w2 => ∃ z, e = .returned (.bool z) ∧ CM w w2 g F { S with T := upf S.T i (tcuR (S.T i) (findI (S.T i) id)), G := drG S.G S.L id, L := drL S.G S.L id } ls lt) := Lib.hid (fun u q => by
      refine (lremove_any (F := F) (h.keep q) hF id ho hi hls hts hR).mono ?_
      rintro e w1 ⟨rfl, F1, ⟨p1, mb1, ts1, Lf1, gv1, lab1, h1, hF1⟩, hf1, hn1⟩
      refine ⟨rfl, p1, h1.c0, h1.row.lt, ?_⟩
      refine (qdrop p1 S.room S.G S.L id w1 HOk.out.gen h1.pool).mono ?_
      rintro e w2 ⟨rfl, hr2, hg2⟩
      exact ⟨_, rfl, (CM.join hf1 hn1 (h1.pooled hF1 hg2 hr2)).of q⟩)
    have HD5 := Lib.hid hd5
    have hgl := hB.2.1
    clear ha H0 h hF hI hW' hin hd5 hW hB ho hls hts hR
    go_enter Tryz.func60, Tryz.ntmps60
    go_wp2_with fail
    refine HLv.out.mono ?_
    rintro e w1 ⟨rfl, b1⟩
    have B1 := Lib.hid b1
    clear b1
    go_wp2_with fail
    refine (HRm.out _ B1.out).mono ?_
    rintro e w2 ⟨rfl, p2, cp, zg2, hdr⟩
    have HDr := Lib.hid hdr
    clear hdr
    go_wp2_with fail
    refine HDr.out.mono ?_
    rintro e w3 ⟨z3, rfl, hcm⟩
    obtain ⟨F3, ⟨p3, mb3, ts3, Lf3, gv3, lab3, h3, hF3⟩, hf3, hn3⟩ := hcm
    obtain ⟨nw, hnw⟩ : ∃ nw, nw = S.now := ⟨_, rfl⟩
    have HNw := Lib.hid hnw
    have c2 : w3.cell? ⟨g, 2, none⟩ = some (.int .i64 nw) := by rw [hnw]; exact h3.c2
    have c515 := h3.c515
    have hg3 := h3.row.lt
    have hD : LM w3.drew g { S with T := upf S.T i (tcuR (S.T i) (findI (S.T i) id)), G := drG S.G S.L id, L := drL S.G S.L id } p3 mb3 ls lt ts3 Lf3 gv3 lab3 := h3.keep (bdrewn (Below.refl _ _))
    have HD := Lib.hid hD
    have HF3 := Lib.hid (And.intro hF3 (And.intro hf3 hn3))
    have CW := Lib.hid (And.intro c2 c515)
    have CB : Hid ((w3.drew.alloc (.cells ([.int .i64 id, .int .i64 nw] : List Value).toArray 156)).cell? ⟨g, 515, none⟩ = some gv3 ∧ (w3.drew.alloc (.cells ([.int .i64 id, .int .i64 nw] : List Value).toArray 156)).cell? ⟨g, 2, none⟩ = some (.int .i64 nw)) := Lib.hid ⟨cell_keep (w := w3.drew) c515 (alloc_below _ _), cell_keep (w := w3.drew) c2 (alloc_below _ _)⟩
    clear h3 hF3 hf3 hn3 hnw c2 c515 hD
    go_upto_region 7 with fail
    refine wp_region_held_drew (S := fun w' => w'.cell? ⟨g, 2, none⟩ = some (.int .i64 nw)) (by kernel_rfl) (CW.out.1) (fun hHeld => ?_)
    refine tk 0 hHeld ?_
    refine tk 1 hHeld ?_
    refine tk 2 hHeld ?_
    refine tk 3 hHeld ?_
    refine tk 5 hHeld ?_
    refine tk 6 hHeld ?_
    refine tk 7 hHeld ?_
    refine tk 8 hHeld ?_
    refine tk 9 hHeld ?_
    refine tk 10 hHeld ?_
    refine wpAnyH_pair (i := 4) (j := 11) (v := gv3) (u := .slice (some ⟨w3.heap.size, 0, none⟩) 1 1) (w' := w3.drew.alloc (.cells ([.int .i64 id, .int .i64 nw] : List Value).toArray 156)) rfl rfl (by kernel_rfl) (by kernel_rfl) (by kernel_rfl) (by rfl) (by rfl) (by rfl) (by rfl) (exec_cell rfl rfl Tryz.underlying116 CW.out.2) (exec_bs rfl rfl (bs_going id nw _)) (exec_bs rfl rfl (bs_going id nw _)) (exec_cell rfl rfl Tryz.underlying116 CB.out.1) rfl hHeld CB.out.2 ?_
    simp only [Act.put, List.getElem_toArray, List.getElem_cons_zero, List.getElem_cons_succ, List.setIfInBounds_toArray, List.set_cons_zero, List.set_cons_succ]
    clear hHeld CW CB
    have hmm : (S.go.map mkG).length ≤ 2000 := by rw [List.length_map]; omega
    refine rd 12 (fun K hK => ?_)
    rw [if_pos (by rfl)]
    refine wp_appC (.tmp 27) (.tmp 34) 116 156 2 16 (.agg #[.int .i64 0, .int .i64 0]) cG rfl Tryz.underlying116 ginfo rfl (by decide) (by decide) (fun _ => rfl) gv3 (S.go.map mkG) rfl ((HD.out.keep (alloc_below _ _)).gos) hmm (mkG (id, nw)) [.int .i64 id, .int .i64 nw] rfl (gone9 id nw) w3.heap.size (Blk.new _ _ _) rfl ?_
    intro gu gcap w4 hc hgr hat
    have hc' : ColG w4 (.slice (some ⟨gu, 0, none⟩) ((S.go.map mkG).length + 1) gcap) (S.go ++ [(id, nw)]) := by
      show ColX w4 _ 2 cG _ ((S.go ++ [(id, nw)]).map mkG)
      rw [List.map_append]; exact hc
    generalize (S.go.map mkG).length + 1 = nn at hc' ⊢
    obtain ⟨hcm4, hrow4⟩ := HD.out.gone_ HF3.out.1 (alloc_below _ _) hgr hc' hat
    have HCM : Hid (CM w (w4.setCell ⟨g, 515, none⟩ (.slice (some ⟨gu, 0, none⟩) nn gcap)) g F (deS S id) ls lt) := Lib.hid (by
      have h9 := hcm4
      rw [HNw.out] at h9
      rw [HD5.out]
      exact CM.join (Fr.behind HF3.out.2.1 (bdrewn (Below.refl _ _))) HF3.out.2.2 h9)
    have c4 : w4.cell? ⟨g, 2, none⟩ = some (.int .i64 nw) := by rw [hrow4.cell (by omega), HNw.out]; rfl
    have d4 : w4.cell? ⟨g, 515, none⟩ = some gv3 := by rw [hrow4.cell (by omega)]; rfl
    have f4 : w4.frozen? ⟨g, 515, none⟩ = false := hrow4.frozen _
    have hg4 : g < w4.heap.size := hrow4.lt
    have c5 : (w4.setCell ⟨g, 515, none⟩ (.slice (some ⟨gu, 0, none⟩) nn gcap)).cell? ⟨g, 2, none⟩ = some (.int .i64 nw) := by rw [(hrow4.set 515 _).cell (by omega), if_neg (by omega), HNw.out]; rfl
    clear hc hc' hgr hat hrow4 hcm4
    refine hK.out _ _ c4 (fun hHeld => ?_)
    clear hK K
    simp only [Act.put, List.getElem_toArray, List.getElem_cons_zero, List.getElem_cons_succ, List.setIfInBounds_toArray, List.set_cons_zero, List.set_cons_succ]
    refine tk 13 hHeld ?_
    refine tk 14 hHeld ?_
    refine rd 15 (fun K hK => ?_)
    go_simp
    refine hK.out _ _ c5 (fun hHeld => ?_)
    clear hK K
    refine wpAnyH_done (by kernel_rfl) ?_ _
    clear hHeld
    refine fin (fun W => Chg LSB w W g F (deS S id)) (LSB.of_cm HCM.out HI'.out) ?_
    clear HCM c4 c5 d4 f4 hg4
    rintro W hch
    have HCh := Lib.hid hch
    clear hch
    go_wp2
    go_ret
    exact ⟨by rw [e4.out]; rfl, HCh.out⟩

set_option maxHeartbeats 4000000 in
set_option maxRecDepth 100000 in
theorem lspawn_any {w : World} {g : Nat} {F : Nat → Prop} {S : St} (h0 : LSB w g F S) (hW : WS S) (hB : Bd S 1000) (P : PT) :
    Calls Tryz.prog 57 #[.pointer (some ⟨g, 0, none⟩), .agg (pl P).toArray] w fun e w' => e = .returned (.tuple #[.int .i64 (spV S P), .int .i64 (spE S P)]) ∧ Chg LSB w w' g F (spS S P) := by
  have H0 := Lib.hid h0
  have hg := h0.inH
  have HPX := Lib.hid (pxs P)
  obtain ⟨b, hb⟩ : ∃ b, b = rightT P := ⟨_, rfl⟩
  have HRi : Hid (∀ u, Calls Tryz.prog 91 #[.agg (pl P).toArray] u fun e w' => e = .returned (.bool b) ∧ Below u.heap.size u w') := Lib.hid (fun u => prightT hb.symm u)
  have HTk : Hid (b = true → ∀ u, Below w.heap.size w u → ∃ p, u.cell? ⟨g, 0, none⟩ = some (.pointer (some ⟨p, 0, none⟩)) ∧ Calls Tryz.prog 92 #[.pointer (some ⟨p, 0, none⟩)] u fun e w1 => e = .returned (.tuple #[.int .i64 (tkV S.G S.L S.room), .int .i64 (tkE S.G S.L S.room)]) ∧ (tkE S.G S.L S.room ≠ 0 → Chg LSB w w1 g F (spS S P)) ∧ (∀ b, b < u.heap.size → ¬ F b → w1.heap[b]? = u.heap[b]?) ∧
      (tkE S.G S.L S.room = 0 → Calls Tryz.prog 93 #[.pointer (some ⟨g, 0, none⟩), .int .i64 (tkV S.G S.L S.room), .agg (pl P).toArray] w1 fun e w2 => e = .returned (.tuple #[]) ∧ Chg LSB w w2 g F (spS S P))) := Lib.hid (fun hbt u q => by
    rw [hb] at hbt
    have hE : spE S P = tkE S.G S.L S.room := by unfold spE; rw [if_pos hbt]
    obtain ⟨ls, lt, ⟨p, mb, ts, Lf, gv, lab, h, hF⟩, hI⟩ := h0
    have h1 := h.keep q
    refine ⟨p, h1.c0, ?_⟩
    refine (qtake p S.room S.G S.L u hW.ok.1 hW.ok.gen h1.pool).mono ?_
    rintro e w1 ⟨rfl, hr, hgr⟩
    have hcm := h1.pooled hF hgr hr
    refine ⟨rfl, fun hne => ?_, fun b hbl hn => hcm.blk hbl hn, fun hz => ?_⟩
    · have hS : spS S P = S := by unfold spS; rw [if_neg (by rw [hE]; exact hne)]
      have hL : tkL S.G S.L S.room = S.L := by
        cases ht : tkI S.G S.L S.room with
        | none => exact (tk_none_v ht).2.2
        | some i => exact absurd (tk_some_v ht).2 hne
      rw [hL] at hcm
      rw [hS]
      exact LSB.of_cm (hcm.of q) hI
    · obtain ⟨hW', hd, hin⟩ := ws_spawn hW (P := P) (by rw [hE]; exact hz)
      have hV : spV S P = tkV S.G S.L S.room := by unfold spV; rw [if_pos (by rw [hE]; exact hz)]
      have hSS : spS S P = { S with L := tkL S.G S.L S.room, T := upf S.T P.1.toNat (tadR P.1 (S.T P.1.toNat) (tkV S.G S.L S.room) P), ch := markL S.ch (tkV S.G S.L S.room) S.now } := by unfold spS; rw [if_pos (by rw [hE]; exact hz)]
      rw [hV] at hin hd
      obtain ⟨k32, hkP, _, _⟩ := right_has hbt
      have hlv : liveS (spS S P) (tkV S.G S.L S.room) = true := (hW'.live _).2 ⟨P, (hin _ _).2 (Or.inr ⟨rfl, rfl⟩)⟩
      have hI' := hI.put hW hW' hin (by rw [hSS]) (by rw [hSS]) (by rw [hSS])
      obtain ⟨F1, hb1, hf1, hn1⟩ := hcm
      refine (ladd_any hb1 (tkV S.G S.L S.room) (live_ok hlv) P k32 hkP.symm (hB.2.2.1 _ k32)).mono ?_
      rintro e w2 ⟨rfl, hc⟩
      refine ⟨rfl, LSB.of_cm ?_ hI'⟩
      have hc2 := ((CM.join hf1 hn1 hc).of q).chs (markL S.ch (tkV S.G S.L S.room) S.now)
      rw [hSS]
      rw [hkP] at hc2
      exact hc2)
  have HV1 : Hid (b = false → spV S P = 0 ∧ spE S P = 1 ∧ spS S P = S) := Lib.hid (fun c => by
    have e1 : spE S P = 1 := by unfold spE; rw [← hb, c]; rfl
    refine ⟨by unfold spV; rw [e1]; rfl, e1, by unfold spS; rw [e1]; rfl⟩)
  have HV2 : Hid (b = true → spE S P = tkE S.G S.L S.room ∧ (tkE S.G S.L S.room = 0 → spV S P = tkV S.G S.L S.room) ∧ (tkE S.G S.L S.room ≠ 0 → spV S P = 0)) := Lib.hid (fun c => by
    have e1 : spE S P = tkE S.G S.L S.room := by unfold spE; rw [← hb, c]; rfl
    exact ⟨e1, fun z => by unfold spV; rw [e1, z]; rfl, fun z => by unfold spV; rw [e1, if_neg z]⟩)
  obtain ⟨X, hX⟩ : ∃ X, X = pl P := ⟨_, rfl⟩
  rw [← hX] at HPX HRi HTk ⊢
  obtain ⟨v, hv⟩ : ∃ v, v = tkV S.G S.L S.room := ⟨_, rfl⟩
  obtain ⟨E, hEE⟩ : ∃ E, E = tkE S.G S.L S.room := ⟨_, rfl⟩
  rw [← hv, ← hEE] at HTk HV2
  have KX := Lib.hid (Blk.new w 43 X.toArray)
  have HB0 : Hid (Below w.heap.size w (w.alloc (.cells X.toArray 43))) := Lib.hid (alloc_below _ _)
  have hFw : Hid (¬ F w.heap.size) := Lib.hid (by
    obtain ⟨ls, lt, ⟨p, mb, ts, Lf, gv, lab, h, hF⟩, hI⟩ := h0
    exact fun c => by have := h.inb _ ((hF _).1 c); omega)
  clear hX hb hv hEE h0 hW hB
  go_enter Tryz.func57, Tryz.ntmps57
  go_upto_region 1 with fail
  refine fin (fun W => Blk W w.heap.size 43 X.toArray ∧ Below w.heap.size w W) ⟨KX.out, HB0.out⟩ ?_
  clear KX HB0
  rintro W0 ⟨kx, hb0⟩
  have KX := Lib.hid kx
  have HB0 := Lib.hid hb0
  have zx := kx.lt
  have zg : g < W0.heap.size := Nat.lt_of_lt_of_le hg hb0.size
  clear kx hb0
  go_wp2_with (refine wpList_load_g rfl 43 (.tmp 3) rfl w.heap.size 0 rfl X _ (blk_whole KX.out) Tryz.underlying43 rfl HPX.out.2.1 ?_)
  refine (HRi.out _).mono ?_
  rintro e w1 ⟨rfl, b1⟩
  replace KX := Lib.hid (Blk.keep KX.out b1)
  replace HB0 := Lib.hid (bthen HB0.out b1)
  clear b1 zx zg
  have zx := KX.out.lt
  have zg : g < w1.heap.size := Nat.lt_of_lt_of_le hg HB0.out.size
  cases b with
  | false =>
    obtain ⟨v1, v2, v3⟩ := HV1.out rfl
    have V1 := Lib.hid v1
    have V2 := Lib.hid v2
    have V3 := Lib.hid v3
    clear v1 v2 v3 HTk HV2 HV1
    go_wp2
    go_ret2
    exact ⟨by rw [V1.out, V2.out]; rfl, by rw [V3.out]; exact LSB.still H0.out HB0.out⟩
  | true =>
    obtain ⟨v1, v2, v3⟩ := HV2.out rfl
    have V1 := Lib.hid v1
    have V2 := Lib.hid v2
    have V3 := Lib.hid v3
    obtain ⟨p, cp, hta⟩ := HTk.out rfl _ HB0.out
    have HTa := Lib.hid hta
    clear v1 v2 v3 HTk HV2 HV1 hta
    go_wp2_with fail
    refine HTa.out.mono ?_
    rintro e w2 ⟨rfl, hno, hblk, hadd⟩
    have HNo := Lib.hid hno
    have HAd := Lib.hid hadd
    replace KX := Lib.hid (KX.out.same (hblk _ zx hFw.out))
    clear hno hadd hblk zx zg cp HTa
    have zx := KX.out.lt
    by_cases hE : E = 0
    · replace HAd := Lib.hid (HAd.out hE)
      have V4 := Lib.hid (V2.out hE)
      have V5 := Lib.hid (V1.out.trans hE)
      clear V1 V2 V3 HNo
      subst hE
      go_wp2_with (refine wpList_load_mid rfl 43 (.tmp 3) rfl w.heap.size 0 rfl X _ (blk_whole KX.out) Tryz.underlying43 rfl HPX.out.2.1 ?_)
      refine HAd.out.mono ?_
      rintro e w3 ⟨rfl, hc⟩
      have HC := Lib.hid hc
      clear hc
      go_wp2
      go_ret2
      exact ⟨by rw [V4.out, V5.out]; rfl, HC.out⟩
    · have hne : (E != 0) = true := by simpa using hE
      have HC := Lib.hid (HNo.out hE)
      have V4 := Lib.hid (V3.out hE)
      clear V2 V3 HNo HAd
      go_wp2
      go_ret2
      exact ⟨by rw [V4.out, V1.out]; rfl, HC.out⟩

set_option maxHeartbeats 1000000 in
set_option maxRecDepth 100000 in
theorem lall_any {w : World} {g : Nat} {F : Nat → Prop} {S : St} (h0 : LSB w g F S) (hW : WS S) :
    Calls Tryz.prog 50 #[.pointer (some ⟨g, 0, none⟩)] w fun e w' => ∃ a cap, e = .returned (.slice a (alS S).length cap) ∧ Row w' a (alS S).length (alS S) ∧ Below w.heap.size w w' := by
  have hg := h0.inH
  obtain ⟨p, c0, _, hal⟩ := h0.live
  have HAl := Lib.hid (hal hW.ok)
  clear hal h0 hW
  go_enter Tryz.func50, Tryz.ntmps50
  go_wp2_with fail
  refine HAl.out.mono ?_
  rintro e w1 ⟨a, cap, rfl, hr, hb⟩
  have HR := Lib.hid (And.intro hr hb)
  clear hr hb
  go_wp2
  go_ret
  exact ⟨a, cap, rfl, HR.out.1, HR.out.2⟩
set_option maxHeartbeats 1000000 in
set_option maxRecDepth 100000 in
theorem ltick_any {w : World} {g : Nat} {F : Nat → Prop} {S : St} (h0 : LSB w g F S) :
    Calls Tryz.prog 48 #[.pointer (some ⟨g, 0, none⟩)] w fun e w' => e = .returned (.int .i64 S.now) ∧ Below w.heap.size w w' := by
  have hg := h0.inH
  obtain ⟨ls, lt, ⟨p, mb, ts, Lf, gv, lab, h, hF⟩, hI⟩ := h0
  have c2 := h.c2
  clear h hF hI
  go_enter Tryz.func48, Tryz.ntmps48
  go_wp2
  go_ret
  exact ⟨rfl, Below.refl _ _⟩
set_option maxHeartbeats 1000000 in
set_option maxRecDepth 100000 in
theorem lnext_any {w : World} {g : Nat} {F : Nat → Prop} {S : St} (h0 : LSB w g F S) (hB : Bd S 1000) :
    Calls Tryz.prog 49 #[.pointer (some ⟨g, 0, none⟩)] w fun e w' => e = .returned (.int .i64 (S.now + 1)) ∧ Chg LSB w w' g F (neS S) := by
  have hg := h0.inH
  obtain ⟨ls, lt, ⟨p, mb, ts, Lf, gv, lab, h, hF⟩, hI⟩ := h0
  have c2 := h.c2
  have f2 := h.row.frozen 2
  have hr := h.row.set 2 (.int .i64 (S.now + 1))
  have HC : Hid (Chg LSB w (w.setCell ⟨g, 2, none⟩ (.int .i64 (S.now + 1))) g F (neS S)) := Lib.hid (LSB.of_cm (LM.cells (F := F) h hF (now' := S.now + 1) (grown_set w g _ _) (hr.congr (fun j _ => lF_upNow _ j))) hI.ne)
  have hn0 : 0 < S.now := hB.2.2.2.1
  have hn1 : S.now ≤ 1001 := by have := hB.2.2.2.2.1; omega
  obtain ⟨nw, hnw⟩ : ∃ nw, nw = S.now := ⟨_, rfl⟩
  rw [← hnw] at c2 hn0 hn1 HC ⊢
  clear h hF hI hr hB hnw
  go_enter Tryz.func49, Tryz.ntmps49
  go_wp2
  go_ret
  exact ⟨rfl, HC.out⟩

theorem allL_nod (G : Nat → Int) (L : Nat → Bool) : ∀ k, k ≤ 256 → (∀ i, 0 ≤ G i) → (allL G L k).Nodup
  | k, hk, hG => by
    unfold allL
    refine List.pairwise_map.2 ((List.Pairwise.filter _ List.pairwise_lt_range).imp_of_mem fun {a b} ha hb h e => ?_)
    rw [List.mem_filter, List.mem_range] at ha hb
    unfold nm at e
    have := hG a
    have := hG b
    omega
def chK (lt : Nat → Int) (since : Int) (l : List Int) : List Int := l.filter fun x => decide (since < lt (x % 256).toNat)
theorem nod_snd : ∀ (l : List (Int × Int)), (l.map Prod.fst).Nodup → ∀ x a b, (x, a) ∈ l → (x, b) ∈ l → a = b
  | [], _, x, a, b, h, _ => by cases h
  | (y, c) :: l, hn, x, a, b, ha, hb => by
    rw [List.map_cons, List.nodup_cons] at hn
    rcases List.mem_cons.1 ha with ea | ha'
    · rcases List.mem_cons.1 hb with eb | hb'
      · injection ea with _ ea
        injection eb with _ eb
        rw [ea, eb]
      · injection ea with ea _
        exact absurd (List.mem_map.2 ⟨_, hb', ea⟩) hn.1
    · rcases List.mem_cons.1 hb with eb | hb'
      · injection eb with eb _
        exact absurd (List.mem_map.2 ⟨_, ha', eb⟩) hn.1
      · exact nod_snd l hn.2 x a b ha' hb'
theorem ch_perm {S : St} {ls lt : Nat → Int} (hI : LI S ls lt) (hW : WS S) (since : Int) : (chK lt since (alS S)).Perm ((S.ch.filter fun x => liveS S x.1 && decide (since < x.2)).map Prod.fst) := by
  refine (List.perm_ext_iff_of_nodup ?_ ?_).2 fun x => ?_
  · exact List.Nodup.sublist List.filter_sublist (allL_nod S.G S.L 256 (by omega) (fun i => (hW.ok.2.1 i).1))
  · exact List.Nodup.sublist (List.Sublist.map _ List.filter_sublist) hI.chn
  · unfold chK
    rw [List.mem_filter, mem_all hW, List.mem_map]
    constructor
    · rintro ⟨h1, h2⟩
      refine ⟨_, List.mem_filter.2 ⟨hI.chm x h1, ?_⟩, rfl⟩
      rw [h1]
      exact h2
    · rintro ⟨⟨y, t⟩, hy, rfl⟩
      rw [List.mem_filter, Bool.and_eq_true] at hy
      refine ⟨hy.2.1, ?_⟩
      have hm := hI.chm y hy.2.1
      rw [nod_snd _ hI.chn _ _ _ hm hy.1]
      exact hy.2.2
theorem chK_yes {lt : Nat → Int} {since x : Int} {xs : List Int} {k : Nat} (h : xs[k]? = some x) (hc : since < lt (x % 256).toNat) : chK lt since (xs.take (k + 1)) = chK lt since (xs.take k) ++ [x] := by
  unfold chK
  rw [List.take_add_one, h, List.filter_append]
  simp [hc]
theorem chK_no {lt : Nat → Int} {since x : Int} {xs : List Int} {k : Nat} (h : xs[k]? = some x) (hc : ¬ since < lt (x % 256).toNat) : chK lt since (xs.take (k + 1)) = chK lt since (xs.take k) := by
  unfold chK
  rw [List.take_add_one, h, List.filter_append]
  simp [hc]
set_option maxHeartbeats 4000000 in
set_option maxRecDepth 100000 in
theorem lchanged_any {w : World} {g : Nat} {F : Nat → Prop} {S : St} (h0 : LSB w g F S) (hW : WS S) (since : Int) :
    Calls Tryz.prog 54 #[.pointer (some ⟨g, 0, none⟩), .int .i64 since] w fun e w' => ∃ v, e = .returned v ∧ LRes w w' (chL S since) v ∧ Below w.heap.size w w' := by
  have HAl := Lib.hid (lall_any h0 hW)
  obtain ⟨ls, lt, ⟨p, mb, ts, Lf, gv, lab, h, hF⟩, hI⟩ := h0
  have HCh : Hid ((chK lt since (alS S)).mergeSort (fun x y => decide (x ≤ y)) = chL S since) := Lib.hid (srt_eq (ch_perm hI hW since))
  have HLv : Hid (∀ x ∈ alS S, idOk x = true) := Lib.hid (fun x hx => live_ok ((mem_all hW).1 hx))
  have HT : Hid (∀ u, Below w.heap.size w u → ∀ k, k < 256 → u.cell? ⟨g, 3 + k * 2 + 1, none⟩ = some (.int .i64 (lt k))) := Lib.hid (fun u q k hk => (h.keep q).cT hk)
  have hg := h.row.lt
  have hlen : (alS S).length ≤ 256 := by
    unfold alS allL
    rw [List.length_map]
    exact Nat.le_trans (List.length_filter_le _ _) (by rw [List.length_range]; exact Nat.le_refl _)
  obtain ⟨xs, hxs⟩ : ∃ xs, xs = alS S := ⟨_, rfl⟩
  rw [← hxs] at HAl HCh HLv hlen
  obtain ⟨i0, hi0, hz0, hz1, hz2⟩ := info_parts id_info
  have HI := Lib.hid (And.intro hi0 (And.intro hz0 (And.intro hz1 hz2)))
  clear hi0 hz0 hz1 hz2 h hF hI hW hxs
  obtain ⟨n, hn⟩ : ∃ n, n = xs.length := ⟨_, rfl⟩
  rw [← hn] at HAl hlen
  have HN := Lib.hid hn
  clear hn
  go_enter Tryz.func54, Tryz.ntmps54
  go_wp2_with fail
  refine HAl.out.mono ?_
  rintro e w1 ⟨a, cap, rfl, hrow, hb1⟩
  have HRow := Lib.hid hrow
  have HB1 := Lib.hid hb1
  have hbig := hrow.2.1
  clear hrow hb1 HAl
  go_wp2
  have hsz1 : w.heap.size ≤ w1.heap.size := HB1.out.size
  go_loopw [5, 11] (fun v i wr => ∃ k : Nat, k ≤ n ∧ i = .int .i64 k ∧ OwnD wr w1.heap.size v (chK lt since (xs.take k)).length (chK lt since (xs.take k)) ∧ Below w1.heap.size w1 wr) (fun _ i _ => n - (ivl i).toNat)
  case atStart => exact ⟨0, by omega, rfl, OwnD.nil _ _, Below.refl _ _⟩
  case round =>
    obtain ⟨k, hk, rfl, hown, hb⟩ := hrel
    have HOwn := Lib.hid hown
    have HB := Lib.hid hb
    have hgw : g < wr.heap.size := Nat.lt_of_lt_of_le (Nat.lt_of_lt_of_le hg hsz1) hb.size
    have hsz : w1.heap.size ≤ wr.heap.size := hb.size
    have hcl : (chK lt since (xs.take k)).length ≤ 256 := by
      unfold chK
      refine Nat.le_trans (List.length_filter_le _ _) ?_
      rw [List.length_take]
      omega
    clear hown hb
    by_cases hlt : k < n
    · obtain ⟨b, off, x, rfl, hx, cx⟩ := row_at (row_keep HRow.out HB.out) hlt
      have hbl := World.block_lt_of_cell? _ _ cx
      obtain ⟨j, hj, hj2, hix⟩ := ix_any (HLv.out x (List.mem_of_getElem? hx))
      have HIx := Lib.hid hix
      have ct := HT.out wr (bthen HB1.out HB.out) j hj
      have k0 : (0 : Int) ≤ (k : Int) := by omega
      have k1 : (k : Int) < (n : Int) := by omega
      have j0 : (0 : Int) ≤ (j : Int) := by omega
      have j1 : (j : Int) < 256 := by omega
      obtain ⟨t, ht⟩ : ∃ t, t = lt j := ⟨_, rfl⟩
      rw [← ht] at ct
      have HYes : Hid (since < t → chK lt since (xs.take (k + 1)) = chK lt since (xs.take k) ++ [x]) := Lib.hid (fun c => chK_yes hx (by rw [hj2, ← ht]; exact c))
      have HNo : Hid (¬ since < t → chK lt since (xs.take (k + 1)) = chK lt since (xs.take k)) := Lib.hid (fun c => chK_no hx (by rw [hj2, ← ht]; exact c))
      obtain ⟨C, hC⟩ : ∃ C, C = chK lt since (xs.take k) := ⟨_, rfl⟩
      rw [← hC] at HYes HNo HOwn hcl
      obtain ⟨m, hm⟩ : ∃ m, m = C.length := ⟨_, rfl⟩
      rw [← hm] at HOwn hcl
      have HM := Lib.hid hm
      clear hix hj2 hx ht hC hm
      by_cases hc : since < t
      · replace HYes := Lib.hid (HYes.out hc)
        clear HNo
        go_wp2
        go_quiet (first | (go_at_call 87; refine Calls.quiet_of_same ((HIx.out _).mono fun _ _ q => ⟨q.1, q.2.symm⟩)))
        refine fin (fun W => OwnD W w1.heap.size u5 m C ∧ Below w1.heap.size w1 W) ⟨ownD_keep HOwn.out (Go.below_drewN (Below.refl _ _) nq), Go.below_drewN HB.out nq⟩ ?_
        rintro W ⟨ho, hb⟩
        have HO2 := Lib.hid ho
        have HB2 := Lib.hid hb
        have hs2 : w1.heap.size ≤ W.heap.size := hb.size
        clear ho hb ct cx HOwn HB
        go_wp2_with (at_builtin; refine wpList_append_own _ rfl (.tmp 25) (.tmp 27) 53 rfl w1.heap.size 31 i0 (.int .i64 0) 1 8 Tryz.underlying53 HI.out.1 HI.out.2.1 HI.out.2.2.1 HI.out.2.2.2 rfl (by decide) _ _ _ rfl (HO2.out.alloc _) ⟨W.heap.size, 0, none⟩ 1 1 [.int .i64 x] rfl rfl (cell_one_new _ _ _) (by intro u hu; simp at hu; subst hu; rfl) (by unfold maxLen; omega) (by omega) (by simp; omega) ?_)
        intro v' w2 hown' hgrow _
        have HOwn' := Lib.hid hown'
        have HGr := Lib.hid hgrow
        clear hown' hgrow
        go_wp2
        go_roundw
        case rel =>
          have el : (chK lt since (xs.take (k + 1))).length = m + 1 := by rw [HYes.out, List.length_append, ← HM.out]; rfl
          refine ⟨k + 1, by omega, by go_num, ?_, grownD_below HO2.out (Nat.le_refl _) HB2.out hs2 HGr.out⟩
          rw [el]
          unfold OwnD
          rw [HYes.out, List.map_append]
          exact HOwn'.out
        case measure => simp [ivl] <;> omega
      · have hcc : decide (since < t) = false := decide_eq_false hc
        replace HNo := Lib.hid (HNo.out hc)
        clear HYes
        go_wp2
        go_quiet (first | (go_at_call 87; refine Calls.quiet_of_same ((HIx.out _).mono fun _ _ q => ⟨q.1, q.2.symm⟩)))
        go_wp2
        go_roundw
        case rel => exact ⟨k + 1, by omega, by go_num, by rw [HNo.out, ← HM.out]; exact ownD_keep HOwn.out (Go.below_drewN (Below.refl _ _) nq), Go.below_drewN HB.out nq⟩
        case measure => simp [ivl] <;> omega
    · obtain rfl : k = n := by omega
      have e0 : xs.take k = xs := List.take_of_length_le (by have := HN.out; omega)
      rw [e0] at HOwn hcl
      have HS := Lib.hid (sort9_any HOwn.out (by omega))
      obtain ⟨qa, qcap, hqv, hqr⟩ := HOwn.out.row
      clear hqr
      subst hqv
      clear e0
      go_wp2_with fail
      refine HS.out.mono ?_
      rintro e w2 ⟨rfl, ho, hgr⟩
      have HR : Hid (LRes w w2 (chL S since) (.slice qa (chK lt since xs).length qcap) ∧ Below w.heap.size w w2) := Lib.hid ⟨by
        rw [HCh.out] at ho
        exact LRes.of9 ho hsz1, bthen HB1.out (own_below9 HOwn.out (Nat.le_refl _) HB.out hgr)⟩
      clear ho hgr HS
      go_wp2
      go_ret
      exact ⟨_, rfl, HR.out.1, HR.out.2⟩

def goK (S : St) (k : Nat) : List Int := ((S.go.drop k).reverse).map Prod.fst
theorem goK_step {S : St} {k : Nat} {x : Int × Int} (h : S.go[k]? = some x) : goK S k = goK S (k + 1) ++ [x.1] := by
  unfold goK
  have : S.go.drop k = x :: S.go.drop (k + 1) := by
    obtain ⟨hk, e⟩ := List.getElem?_eq_some_iff.1 h
    rw [← e, List.drop_eq_getElem_cons hk]
  rw [this, List.reverse_cons, List.map_append]
  rfl
theorem go_filter {S : St} {since : Int} {k : Nat} (hd : ∀ x ∈ S.go.drop k, since < x.2) (ht : ∀ x ∈ S.go.take k, x.2 ≤ since) : S.go.filter (fun x => decide (since < x.2)) = S.go.drop k := by
  have e : S.go = S.go.take k ++ S.go.drop k := (List.take_append_drop k S.go).symm
  rw [e, List.filter_append, List.filter_eq_nil_iff.2 (fun x hx => by have := ht x hx; simpa using this), List.filter_eq_self.2 (fun x hx => by have := hd x hx; simpa using this), List.nil_append, ← e]
theorem go_srt {S : St} {since : Int} {k : Nat} (hp : S.go.Pairwise (fun a b => a.2 ≤ b.2)) (hd : ∀ x ∈ S.go.drop k, since < x.2) (hk : ∀ x, 0 < k → S.go[k - 1]? = some x → x.2 ≤ since) (hl : k ≤ S.go.length) : (goK S k).mergeSort (fun x y => decide (x ≤ y)) = goL S since := by
  have ht : ∀ x ∈ S.go.take k, x.2 ≤ since := fun x hx => by
    obtain ⟨j, hj, e⟩ := List.mem_iff_getElem.1 hx
    rw [List.length_take] at hj
    rw [List.getElem_take] at e
    have hk1 : k - 1 < S.go.length := by omega
    have h1 := hk _ (by omega) (List.getElem?_eq_getElem hk1)
    by_cases c : j = k - 1
    · subst c; rw [← e]; exact h1
    · have := List.pairwise_iff_getElem.1 hp j (k - 1) (by omega) hk1 (by omega)
      rw [← e]
      omega
  refine srt_eq ?_
  rw [go_filter hd ht]
  unfold goK
  exact (List.reverse_perm _).map _
set_option maxHeartbeats 4000000 in
set_option maxRecDepth 100000 in
theorem lgone_any {w : World} {g : Nat} {F : Nat → Prop} {S : St} (h0 : LSB w g F S) (hB : Bd S 1000) (since : Int) :
    Calls Tryz.prog 55 #[.pointer (some ⟨g, 0, none⟩), .int .i64 since] w fun e w' => ∃ v, e = .returned v ∧ LRes w w' (goL S since) v ∧ Below w.heap.size w w' := by
  obtain ⟨ls, lt, ⟨p, mb, ts, Lf, gv, lab, h, hF⟩, hI⟩ := h0
  have HP := Lib.hid hI.gop
  have hg := h.row.lt
  have hlen := hB.2.1
  have c515 := h.c515
  obtain ⟨a, cap, hv, hcap, hmax⟩ := ColX.form h.gos
  rw [List.length_map] at hv hcap
  have hcol := h.gos
  rw [hv] at hcol c515
  have HR : Hid (∀ u, Below w.heap.size w u → ∀ j x, S.go[j]? = some x → ∃ b, a = some ⟨b, 0, none⟩ ∧ b < u.heap.size ∧ u.cell? ⟨b, j * 2, none⟩ = some (.int .i64 x.1) ∧ u.cell? ⟨b, j * 2 + 1, none⟩ = some (.int .i64 x.2)) := Lib.hid (fun u q j x hx => by
    have hj := (List.getElem?_eq_some_iff.1 hx).1
    obtain ⟨b, cap', cur, hvv, hbk, _⟩ := ColX.open_ hcol (by rw [List.length_map]; omega)
    injection hvv with hvv _ _
    subst hvv
    have hr := ColX.range (c := cG) (k := 2) (fun _ => rfl) hcol (i := j) (x := mkG x) (by rw [List.getElem?_map, hx]; rfl)
    have h1 : w.cell? ⟨b, j * 2, none⟩ = some (.int .i64 x.1) := hr 0 _ rfl
    have h2 : w.cell? ⟨b, j * 2 + 1, none⟩ = some (.int .i64 x.2) := hr 1 _ rfl
    exact ⟨b, rfl, Nat.lt_of_lt_of_le hbk.lt q.size, cell_keep h1 q, cell_keep h2 q⟩)
  have HC : Hid (∀ u, Below w.heap.size w u → u.cell? ⟨g, 515, none⟩ = some (.slice a S.go.length cap)) := Lib.hid (fun u q => cell_keep c515 q)
  obtain ⟨i0, hi0, hz0, hz1, hz2⟩ := info_parts id_info
  have HI := Lib.hid (And.intro hi0 (And.intro hz0 (And.intro hz1 hz2)))
  obtain ⟨n, hn⟩ : ∃ n, n = S.go.length := ⟨_, rfl⟩
  rw [← hn] at c515 HC hcap hlen
  have HN := Lib.hid hn
  clear hi0 hz0 hz1 hz2 h hF hI hB hcol hv hn
  go_enter Tryz.func55, Tryz.ntmps55
  go_wp2
  go_loopw [5, 6] (fun v i wr => ∃ k : Nat, k ≤ n ∧ i = .int .i64 ((k : Int) - 1) ∧ (∀ x ∈ S.go.drop k, since < x.2) ∧ OwnD wr w.heap.size v (n - k) (goK S k) ∧ Below w.heap.size w wr) (fun _ i _ => (ivl i + 1).toNat)
  case atStart => exact ⟨n, by omega, by go_num, by rw [HN.out, List.drop_length]; simp, by rw [Nat.sub_self, show goK S n = [] by unfold goK; rw [HN.out, List.drop_length]; rfl]; exact OwnD.nil _ _, Below.refl _ _⟩
  case round =>
    obtain ⟨k, hk, rfl, hall, hown, hb⟩ := hrel
    have HAll := Lib.hid hall
    have HOwn := Lib.hid hown
    have HB := Lib.hid hb
    have hgw : g < wr.heap.size := Nat.lt_of_lt_of_le hg hb.size
    have hsz : w.heap.size ≤ wr.heap.size := hb.size
    have cw := HC.out wr hb
    clear hall hown hb c515
    have HEnd : Hid ((∀ x, 0 < k → S.go[k - 1]? = some x → x.2 ≤ since) → ∃ v : Value, ∃ nn qa qcap, v = .slice qa nn qcap ∧ u5 = v ∧ Calls Tryz.prog 88 #[v] wr fun e w2 => e = .returned (.tuple #[]) ∧ LRes w w2 (goL S since) v ∧ Below w.heap.size w w2) := Lib.hid (fun hx => by
      obtain ⟨qa, qcap, hqv, _⟩ := HOwn.out.row
      refine ⟨u5, n - k, qa, qcap, hqv, rfl, ?_⟩
      refine (sort9_any HOwn.out (by omega)).mono ?_
      rintro e w2 ⟨rfl, ho, hgr⟩
      refine ⟨rfl, ?_, own_below9 HOwn.out (Nat.le_refl _) HB.out hgr⟩
      rw [go_srt HP.out HAll.out hx (by rw [← HN.out]; exact hk)] at ho
      exact LRes.of9 ho (Nat.le_refl _))
    by_cases hk0 : k = 0
    · subst hk0
      obtain ⟨v, nn, qa, qcap, hv, hu, hs⟩ := HEnd.out (fun x c => by omega)
      have HS := Lib.hid hs
      subst hu
      subst hv
      clear hs HEnd
      go_wp2_with fail
      refine HS.out.mono ?_
      rintro e w2 ⟨rfl, hr, hb⟩
      have HR2 := Lib.hid (And.intro hr hb)
      clear hr hb
      go_wp2
      go_ret
      exact ⟨_, rfl, HR2.out.1, HR2.out.2⟩
    · obtain ⟨j, rfl⟩ : ∃ j, k = j + 1 := ⟨k - 1, by omega⟩
      have hjn : j < n := by omega
      obtain ⟨x, hx⟩ : ∃ x, S.go[j]? = some x := ⟨_, List.getElem?_eq_getElem (by rw [← HN.out]; exact hjn)⟩
      obtain ⟨b, rfl, hbl, cx, ct⟩ := HR.out wr HB.out j x hx
      rw [show ((j + 1 : Nat) : Int) - 1 = (j : Int) by omega]
      have j0 : (0 : Int) ≤ (j : Int) := by omega
      have j1 : (j : Int) < (n : Int) := by omega
      have HK := Lib.hid (goK_step hx)
      have HX := Lib.hid hx
      obtain ⟨x1, t⟩ := x
      simp only at cx ct HK
      by_cases hc : since < t
      · have hcc : decide (since < t) = true := decide_eq_true hc
        clear HEnd hx
        go_wp2_with (at_builtin; refine wpList_append_own _ rfl (.tmp 31) (.tmp 40) 53 rfl w.heap.size 31 i0 (.int .i64 0) 1 8 Tryz.underlying53 HI.out.1 HI.out.2.1 HI.out.2.2.1 HI.out.2.2.2 rfl (by decide) _ _ _ rfl (HOwn.out.alloc _) ⟨wr.heap.size, 0, none⟩ 1 1 [.int .i64 x1] rfl rfl (cell_one_new _ _ _) (by intro u hu; simp at hu; subst hu; rfl) (by unfold maxLen; omega) (by omega) (by simp; omega) ?_)
        intro v' w2 hown' hgrow _
        have HOwn' := Lib.hid hown'
        have HGr := Lib.hid hgrow
        clear hown' hgrow
        go_wp2
        go_roundw
        case rel =>
          refine ⟨j, by omega, by go_num, fun y hy => ?_, ?_, grownD_below HOwn.out (Nat.le_refl _) HB.out hsz HGr.out⟩
          · obtain ⟨hj2, e⟩ := List.getElem?_eq_some_iff.1 HX.out
            rw [List.drop_eq_getElem_cons hj2, e] at hy
            rcases List.mem_cons.1 hy with rfl | hy
            · exact hc
            · exact HAll.out y hy
          · unfold OwnD
            rw [HK.out, List.map_append, show n - j = n - (j + 1) + 1 by omega]
            exact HOwn'.out
        case measure => simp [ivl] <;> omega
      · have hcc : decide (since < t) = false := decide_eq_false hc
        obtain ⟨v, nn, qa, qcap, hv, hu, hs⟩ := HEnd.out (fun y _ e => by
          rw [show j + 1 - 1 = j by omega, hx] at e
          injection e with e
          rw [← e]
          omega)
        have HS := Lib.hid hs
        subst hu
        subst hv
        clear hs HEnd hx
        go_wp2_with fail
        refine HS.out.mono ?_
        rintro e w2 ⟨rfl, hr, hb⟩
        have HR2 := Lib.hid (And.intro hr hb)
        clear hr hb
        go_wp2
        go_ret
        exact ⟨_, rfl, HR2.out.1, HR2.out.2⟩

end Go.Proofs.YtkondkajpmafkaaGreat
