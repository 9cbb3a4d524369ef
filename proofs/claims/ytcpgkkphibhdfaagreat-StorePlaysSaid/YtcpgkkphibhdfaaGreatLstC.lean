/-
  The landed store: what add answers.
-/
import Derived.Test.YtcpgkkphibhdfaaGreatLstB
import Derived.Test.YtcpgkkphibhdfaaGreatStoE
namespace Go.Proofs.YtcpgkkphibhdfaaGreat
open Go.RowKit

theorem pxs (P : PT) : PXs (pl P) := ⟨pl_len _, pl_size _, pl_size' _, pl_one _⟩
section
variable {w : World} {g p mb : Nat} {S : St} {ls lt : Nat → Int} {ts : Nat → Option Nat} {Lf : Nat → Nat → Prop} {gv : Value} {lab : Nat → Nat} {F : Nat → Prop}
/-- a table's Add -/
theorem LM.added {a : Nat} (h : LM w g S p mb ls lt ts Lf gv lab) (hF : ∀ b, F b ↔ lfoot g p mb Lf gv b) {i : Nat} (hi : i < 32) (hts : ts i = some a) (hR : (S.T i).length ≤ 1000) (id : Int) (P : PT) :
    Calls Tryz.prog 74 #[.pointer (some ⟨a, 0, none⟩), .int .i64 id, .agg (pl P).toArray] w fun e w' => ∃ x y : Int, e = .returned (.tuple #[.int .i64 x, .int .i64 y]) ∧ CM w w' g F { S with T := upf S.T i (tadR i (S.T i) id P) } ls lt := by
  have ht := h.tab i hi
  rw [hts] at ht
  refine (tadd_any w a (Lf i) i (S.T i) id P hR ht).mono ?_
  rintro e w' ⟨L', rfl, t1, t2, t3⟩
  exact ⟨_, _, rfl, h.tabled hF hi hts t1 t2 t3⟩
theorem CM.blk {w w' : World} {g : Nat} {S : St} {ls lt : Nat → Int} {F : Nat → Prop} (h : CM w w' g F S ls lt) {b : Nat} (hb : b < w.heap.size) (hn : ¬ F b) : w'.heap[b]? = w.heap[b]? := by
  obtain ⟨F', h1, h2, h3⟩ := h
  exact h2.2.2.2.2 b hb hn
theorem CM.size {w w' : World} {g : Nat} {S : St} {ls lt : Nat → Int} {F : Nat → Prop} (h : CM w w' g F S ls lt) : w.heap.size ≤ w'.heap.size := by
  obtain ⟨F', h1, h2, h3⟩ := h
  exact h2.2.2.2.1
set_option maxHeartbeats 4000000 in
set_option maxRecDepth 100000 in
theorem ladd_any (h0 : LB w g F S ls lt) (id : Int) (ho : idOk id = true) (P : PT) {i : Nat} (hi : i < 32) (hP : P.1 = (i : Int)) (hR : (S.T i).length ≤ 1000) :
    Calls Tryz.prog 40 #[.pointer (some ⟨g, 0, none⟩), .int .i64 id, .agg (pl P).toArray] w fun e w' => e = .returned (.tuple #[]) ∧ CM w w' g F { S with T := upf S.T i (tadR i (S.T i) id P) } (upf ls (id % 256).toNat i) (upf lt (id % 256).toNat S.now) := by
  obtain ⟨k, hk, hk2, hix⟩ := ix_any ho
  have HIx := Lib.hid hix
  rw [hk2]
  have hcP : (pl P)[0]? = some (.int .i64 (i : Int)) := by rw [← hP]; rfl
  obtain ⟨U, hU⟩ : ∃ U, U = (w.alloc (.cells (pl P).toArray 44)) := ⟨_, rfl⟩
  have hUB : Below w.heap.size w U := by rw [hU]; exact alloc_below _ _
  obtain ⟨S1, hS1⟩ : ∃ S1, S1 = { S with T := upf S.T i (tadR i (S.T i) id P) } := ⟨_, rfl⟩
  have hnow : S1.now = S.now := by rw [hS1]
  have hFw : ¬ F w.heap.size := by
    obtain ⟨p, mb, ts, Lf, gv, lab, h, hF⟩ := h0
    exact fun c => by have := h.inb _ ((hF _).1 c); omega
  have HNd : Hid (Calls Tryz.prog 73 #[.pointer (some ⟨g, 0, none⟩), .int .i64 i] U.drew fun e w1 => ∃ a, e = .returned (.pointer (some ⟨a, 0, none⟩)) ∧ w1.heap[w.heap.size]? = U.heap[w.heap.size]? ∧ Calls Tryz.prog 74 #[.pointer (some ⟨a, 0, none⟩), .int .i64 id, .agg (pl P).toArray] w1 fun e w2 => ∃ x y : Int, e = .returned (.tuple #[.int .i64 x, .int .i64 y]) ∧ CM U w2 g F S1 ls lt ∧ w2.heap[w.heap.size]? = U.heap[w.heap.size]?) := Lib.hid (by
    obtain ⟨p, mb, ts, Lf, gv, lab, h, hF⟩ := h0
    have hbd : Below U.heap.size U U.drew := bdrewn (Below.refl _ _)
    refine (lneed_any ((h.keep hUB).keep hbd) hF hi).mono ?_
    rintro e w1 ⟨a, ts', Lf', lab', rfl, hts, h1, h2, h3⟩
    have hw : w.heap.size < U.heap.size := by rw [hU]; simp
    have hcm : CM U w1 g F S ls lt := CM.of ⟨lfoot g p mb Lf' gv, ⟨p, mb, ts', Lf', gv, lab', h1, fun _ => Iff.rfl⟩, h2, h3⟩ hbd
    refine ⟨a, rfl, hcm.blk hw hFw, ?_⟩
    refine (h1.added (fun _ => Iff.rfl) hi hts hR id P).mono ?_
    rintro e w2 ⟨x, y, rfl, h4⟩
    have hcm2 : CM U w2 g F S1 ls lt := by
      rw [hS1]
      exact (CM.join h2 h3 h4).of hbd
    exact ⟨x, y, rfl, hcm2, hcm2.blk hw hFw⟩)
  obtain ⟨X, hX⟩ : ∃ X, X = pl P := ⟨_, rfl⟩
  have HX : Hid (PXs X) := Lib.hid (by rw [hX]; exact pxs P)
  rw [← hX] at HNd hcP hU ⊢
  rw [← hS1]
  have hBU : Blk U w.heap.size 44 X.toArray := by rw [hU]; exact Blk.new w _ _
  have HKB : Hid (∀ u : World, u.heap[w.heap.size]? = U.heap[w.heap.size]? → u.rangeAt w.heap.size 0 X ∧ u.cell? ⟨w.heap.size, 0, none⟩ = some (.int .i64 (i : Int)) ∧ w.heap.size < u.heap.size) := Lib.hid (fun u e => by
    have hb := hBU.same e
    refine ⟨blk_whole hb, ?_, hb.lt⟩
    rw [hb.cell]
    simpa using hcP)
  have HUB := Lib.hid hUB
  have HFw := Lib.hid hFw
  have HNow := Lib.hid hnow
  have HLB := Lib.hid h0
  have hgl := h0.inH
  have HU := Lib.hid hU
  clear hU h0 hX hS1 hBU hUB hFw hnow hR hP hix ho hk2 hcP
  go_enter Tryz.func40, Tryz.ntmps40
  go_upto_region 1 with fail
  refine fin (fun W => W = U) HU.out.symm ?_
  rintro W rfl
  clear HU
  obtain ⟨U, hUW⟩ : ∃ U, U = W := ⟨_, rfl⟩
  subst hUW
  obtain ⟨q1, q2, q3⟩ := HKB.out U rfl
  refine wp_region_held_drew (S := fun w' => w'.cell? ⟨w.heap.size, 0, none⟩ = some (.int .i64 (i : Int)) ∧ w'.rangeAt w.heap.size 0 X) (by kernel_rfl) (⟨q2, q1⟩) (fun hHeld => ?_)
  refine wpAnyH_take (i := 0) (v := ?_) rfl (by kernel_rfl) (by kernel_rfl) (by kernel_rfl) (fun _ _ _ h => h) (Or.inl ⟨by rfl, ?_⟩) hHeld ?_
  rotate_left
  · intro w hSw
    go_simp
    with_reducible rfl
  simp only [Act.put, List.getElem_toArray, List.getElem_cons_zero, List.setIfInBounds_toArray, List.set_cons_zero, List.set_cons_succ]
  refine wpAnyH_take (i := 1) (v := ?_) rfl (by kernel_rfl) (by kernel_rfl) (by kernel_rfl) (fun _ _ _ h => h) (Or.inl ⟨by rfl, ?_⟩) hHeld ?_
  rotate_left
  · intro w hSw
    go_simp
    with_reducible rfl
  simp only [Act.put, List.getElem_toArray, List.getElem_cons_zero, List.getElem_cons_succ, List.setIfInBounds_toArray, List.set_cons_zero, List.set_cons_succ]
  refine wpAnyH_take (i := 2) (v := ?_) rfl (by kernel_rfl) (by kernel_rfl) (by kernel_rfl) (fun _ _ _ h => h) (Or.inl ⟨by rfl, ?_⟩) hHeld ?_
  rotate_left
  · intro w hSw
    have hc := hSw.1
    go_simp
    with_reducible rfl
  simp only [Act.put, List.getElem_toArray, List.getElem_cons_zero, List.getElem_cons_succ, List.setIfInBounds_toArray, List.set_cons_zero, List.set_cons_succ]
  refine wpAnyH_take (i := 4) (v := ?_) rfl (by kernel_rfl) (by kernel_rfl) (by kernel_rfl) (fun _ _ _ h => h) (Or.inl ⟨by rfl, ?_⟩) hHeld ?_
  rotate_left
  · intro w hSw
    go_simp
    with_reducible rfl
  simp only [Act.put, List.getElem_toArray, List.getElem_cons_zero, List.getElem_cons_succ, List.setIfInBounds_toArray, List.set_cons_zero, List.set_cons_succ]
  refine wpAnyH_take (i := 5) (v := _) rfl (by kernel_rfl) (by kernel_rfl) (by kernel_rfl) (fun _ _ _ h => h) (yieldsIf_load_mid (by rfl) _ _ rfl _ _ rfl _ _ (fun _ h => h.2) Tryz.underlying44 rfl HX.out.2.1) hHeld ?_
  simp only [Act.put, List.getElem_toArray, List.getElem_cons_zero, List.getElem_cons_succ, List.setIfInBounds_toArray, List.set_cons_zero, List.set_cons_succ]
  refine wpAnyH_ready (rs := [3]) (by kernel_rfl) (by simp) ?_
  refine AllReadyH.cons rfl (fun K hK => ?_) AllReadyH.nil
  go_simp
  go_at_call 73
  refine (HNd.out).mono ?_
  rintro e w1 ⟨a, rfl, e1, hadd⟩
  have HE1 := Lib.hid e1
  have HAdd := Lib.hid hadd
  clear e1 hadd
  go_wp2_with fail
  refine hK.out _ _ (⟨(HKB.out _ HE1.out).2.1, (HKB.out _ HE1.out).1⟩) (fun hHeld => ?_)
  clear hK K
  refine wpAnyH_ready (rs := [6]) (by kernel_rfl) (by simp) ?_
  refine AllReadyH.cons rfl (fun K hK => ?_) AllReadyH.nil
  go_simp
  go_at_call 74
  refine (HAdd.out).mono ?_
  rintro e w2 ⟨x, y, rfl, hcm, e2⟩
  have HE2 := Lib.hid e2
  have HCM := Lib.hid hcm
  clear e2 hcm
  go_wp2_with fail
  refine hK.out _ _ (⟨(HKB.out _ HE2.out).2.1, (HKB.out _ HE2.out).1⟩) (fun hHeld => ?_)
  clear hK K
  refine wpAnyH_done (by kernel_rfl) ?_ _
  refine fin (fun W => W = w2) rfl ?_
  rintro W rfl
  obtain ⟨F', ⟨p, mb, ts, Lf, gv, lab, h, hF⟩, hfr, hnw⟩ := HCM.out
  obtain ⟨r1, cb, r3⟩ := HKB.out _ HE2.out
  have c2 := h.c2
  rw [HNow.out] at c2
  have cs := h.cS hk
  have ct := h.cT hk
  have fs := h.row.frozen (3 + k * 2)
  have ft := h.row.frozen (3 + k * 2 + 1)
  have HH := Lib.hid h
  have HFF := Lib.hid (And.intro hF (And.intro hfr hnw))
  have k0 : (0 : Int) ≤ (k : Int) := by omega
  have k1 : (k : Int) < 256 := by omega
  have hgW : g < W.heap.size := h.row.lt
  have hne : g ≠ w.heap.size := by omega
  have hrow2 := (h.row.set (3 + k * 2) (.int .i64 (i : Int))).set (3 + k * 2 + 1) (.int .i64 S.now)
  have HS3 : Hid (((W.setCell ⟨g, 3 + k * 2, none⟩ (.int .i64 (i : Int))).setCell ⟨g, 3 + k * 2 + 1, none⟩ (.int .i64 S.now)).drew.cell? ⟨w.heap.size, 0, none⟩ = some (.int .i64 (i : Int)) ∧ ((W.setCell ⟨g, 3 + k * 2, none⟩ (.int .i64 (i : Int))).setCell ⟨g, 3 + k * 2 + 1, none⟩ (.int .i64 S.now)).drew.cell? ⟨g, 2, none⟩ = some (.int .i64 S.now)) := Lib.hid ⟨by
    refine (HKB.out _ ?_).2.1
    refine Eq.trans ?_ HE2.out
    show ((W.setCell ⟨g, 3 + k * 2, none⟩ (.int .i64 (i : Int))).setCell ⟨g, 3 + k * 2 + 1, none⟩ (.int .i64 S.now)).heap[w.heap.size]? = _
    rw [Go.Deep.blk_setCell_other _ _ _ _ (by show w.heap.size ≠ g; omega), Go.Deep.blk_setCell_other _ _ _ _ (by show w.heap.size ≠ g; omega)], by
    have := hrow2.drew.cell (i := 2) (by omega)
    rw [this, if_neg (by omega), if_neg (by omega)]
    show some (lF p mb S1.now ls lt gv 2) = _
    rw [← HNow.out]; rfl⟩
  have HR2 : Hid (((W.setCell ⟨g, 3 + k * 2, none⟩ (.int .i64 (i : Int))).setCell ⟨g, 3 + k * 2 + 1, none⟩ (.int .i64 S.now)).drew.rowIs g 78 516 (lF p mb S1.now (upf ls k i) (upf lt k S.now) gv)) := Lib.hid (hrow2.drew.congr (fun j hj => by
    rw [← lF_upTick hk, ← lF_upSet hk]))
  clear h hF hfr hnw r1 hrow2
  go_wp2
  go_region_held3 (fun w' => w'.cell? ⟨w.heap.size, 0, none⟩ = some (.int .i64 (i : Int)) ∧ w'.cell? ⟨g, 2, none⟩ = some (.int .i64 S.now)) (first | exact ⟨cb, c2⟩ | exact HS3.out | go_keep)
    (first | (go_at_call 48; refine (HIx.out _).mono ?_; rintro e w3 ⟨rfl, rfl⟩))
  go_wp2
  go_end0
  refine ⟨rfl, ?_⟩
  refine CM.of (w1 := U) ?_ HUB.out
  have hlast := LM.cells (F := F') HH.out HFF.out.1 (now' := S1.now) (grown_trans (grown_set W g _ _) (grown_set _ g _ _)) HR2.out
  exact CM.join HFF.out.2.1 HFF.out.2.2 (hlast.back (bdrewn (Below.refl _ _)))
end
end Go.Proofs.YtcpgkkphibhdfaaGreat
