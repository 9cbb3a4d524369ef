/-
  8 texts in one file, each with its own heading.
-/
import Derived.Test.YthhfcedhbfandaaGreatMS33
import Derived.Test.YthhfcedhbfandaaGreatMS09
import Derived.Test.YthhfcedhbfandaaGreatMS08
/-
  The landed store: what add answers.
-/
namespace Go.Proofs.YthhfcedhbfandaaGreat
open Go.RowKit

theorem pxs (P : PT) : PXs (pl P) := ⟨pl_len _, pl_size _, pl_size' _, pl_one _⟩
section
variable {w : World} {g p mb : Nat} {S : St} {ls lt : Nat → Int} {ts : Nat → Option Nat} {Lf : Nat → Nat → Prop} {gv : Value} {lab : Nat → Nat} {F : Nat → Prop}
theorem LM.added {a : Nat} (h : LM w g S p mb ls lt ts Lf gv lab) (hF : ∀ b, F b ↔ lfoot g p mb Lf gv b) {i : Nat} (hi : i < 32) (hts : ts i = some a) (hR : (S.T i).length ≤ 1000) (id : Int) (P : PT) :
    Calls Tryz.prog 180 #[.pointer (some ⟨a, 0, none⟩), .int .i64 id, .agg (pl P).toArray] w fun e w' => ∃ x y : Int, e = .returned (.tuple #[.int .i64 x, .int .i64 y]) ∧ CM w w' g F { S with T := upf S.T i (tadR i (S.T i) id P) } ls lt := by
  have ht := h.tab i hi
  rw [hts] at ht
  refine (tadd_any w a (Lf i) i (S.T i) id P hR ht).mono ?_
  rintro e w' ⟨L', rfl, t1, t2, t3⟩
  exact ⟨_, _, rfl, h.tabled hF hi hts t1 t2 t3⟩
theorem CM.blk {w w' : World} {g : Nat} {S : St} {ls lt : Nat → Int} {F : Nat → Prop} (h : CM w w' g F S ls lt) {b : Nat} (hb : b < w.heap.size) (hn : ¬ F b) : w'.heap[b]? = w.heap[b]? := by
  obtain ⟨F', h1, h2, h3⟩ := h
  exact h2.2.2.2.2 b hb hn
set_option maxHeartbeats 4000000 in
set_option maxRecDepth 100000 in
theorem ladd_any (h0 : LB w g F S ls lt) (id : Int) (ho : idOk id = true) (P : PT) {i : Nat} (hi : i < 32) (hP : P.1 = (i : Int)) (hR : (S.T i).length ≤ 1000) :
    Calls Tryz.prog 112 #[.pointer (some ⟨g, 0, none⟩), .int .i64 id, .agg (pl P).toArray] w fun e w' => e = .returned (.tuple #[]) ∧ CM w w' g F { S with T := upf S.T i (tadR i (S.T i) id P) } (upf ls (id % 256).toNat i) (upf lt (id % 256).toNat S.now) := by
  obtain ⟨k, hk, hk2, hix⟩ := ix_any ho
  have HIx := Lib.hid hix
  rw [hk2]
  have hcP : (pl P)[0]? = some (.int .i64 (i : Int)) := by rw [← hP]; rfl
  obtain ⟨U, hU⟩ : ∃ U, U = (w.alloc (.cells (pl P).toArray 52)) := ⟨_, rfl⟩
  have hUB : Below w.heap.size w U := by rw [hU]; exact alloc_below _ _
  obtain ⟨S1, hS1⟩ : ∃ S1, S1 = { S with T := upf S.T i (tadR i (S.T i) id P) } := ⟨_, rfl⟩
  have hnow : S1.now = S.now := by rw [hS1]
  have hFw : ¬ F w.heap.size := by
    obtain ⟨p, mb, ts, Lf, gv, lab, h, hF⟩ := h0
    exact fun c => by have := h.inb _ ((hF _).1 c); omega
  have HNd : Hid (Calls Tryz.prog 179 #[.pointer (some ⟨g, 0, none⟩), .int .i64 i] U.drew fun e w1 => ∃ a, e = .returned (.pointer (some ⟨a, 0, none⟩)) ∧ w1.heap[w.heap.size]? = U.heap[w.heap.size]? ∧ Calls Tryz.prog 180 #[.pointer (some ⟨a, 0, none⟩), .int .i64 id, .agg (pl P).toArray] w1 fun e w2 => ∃ x y : Int, e = .returned (.tuple #[.int .i64 x, .int .i64 y]) ∧ CM U w2 g F S1 ls lt ∧ w2.heap[w.heap.size]? = U.heap[w.heap.size]?) := Lib.hid (by
    obtain ⟨p, mb, ts, Lf, gv, lab, h, hF⟩ := h0
    have hbd : Below U.heap.size U U.drew := bdrewn (Below.refl _ _)
    refine (lneed_any ((h.keep hUB).keep hbd) hF hi).mono ?_
    rintro e w1 ⟨a, ts', Lf', lab', rfl, hts, h1, h2, h3⟩
    have hw : w.heap.size < U.heap.size := by rw [hU]; simp
    have hcm : CM U w1 g F S ls lt := CM.of ⟨lfoot g p mb Lf' gv, ⟨p, mb, ts', Lf', gv, lab', h1, fun _ => Iff.rfl⟩, h2, h3⟩ hbd
    refine ⟨a, rfl, hcm.blk hw hFw, ?_⟩
    refine (h1.added (fun _ => Iff.rfl) hi hts hR id P).mono ?_
    rintro e w2 ⟨x, y, rfl, h4⟩
    have hcm2 : CM U w2 g F S1 ls lt := by
      rw [hS1]
      exact (CM.join h2 h3 h4).of hbd
    exact ⟨x, y, rfl, hcm2, hcm2.blk hw hFw⟩)
  obtain ⟨X, hX⟩ : ∃ X, X = pl P := ⟨_, rfl⟩
  have HX : Hid (PXs X) := Lib.hid (by rw [hX]; exact pxs P)
  rw [← hX] at HNd hcP hU ⊢
  rw [← hS1]
  have hBU : Blk U w.heap.size 52 X.toArray := by rw [hU]; exact Blk.new w _ _
  have HKB : Hid (∀ u : World, u.heap[w.heap.size]? = U.heap[w.heap.size]? → u.rangeAt w.heap.size 0 X ∧ u.cell? ⟨w.heap.size, 0, none⟩ = some (.int .i64 (i : Int)) ∧ w.heap.size < u.heap.size) := Lib.hid (fun u e => by
    have hb := hBU.same e
    refine ⟨blk_whole hb, ?_, hb.lt⟩
    rw [hb.cell]
    simpa using hcP)
  have HUB := Lib.hid hUB
  have HFw := Lib.hid hFw
  have HNow := Lib.hid hnow
  have HLB := Lib.hid h0
  have hgl := h0.inH
  have HU := Lib.hid hU
  clear hU h0 hX hS1 hBU hUB hFw hnow hR hP hix ho hk2 hcP
  go_enter Tryz.func112, Tryz.ntmps112
  go_upto_region 1 with fail
  refine fin (fun W => W = U) HU.out.symm ?_
  rintro W rfl
  clear HU
  obtain ⟨U, hUW⟩ : ∃ U, U = W := ⟨_, rfl⟩
  subst hUW
  obtain ⟨q1, q2, q3⟩ := HKB.out U rfl
  refine wp_region_held_drew (S := fun w' => w'.cell? ⟨w.heap.size, 0, none⟩ = some (.int .i64 (i : Int)) ∧ w'.rangeAt w.heap.size 0 X) (by kernel_rfl) (⟨q2, q1⟩) (fun hHeld => ?_)
  refine tk 0 hHeld ?_
  refine tk 1 hHeld ?_
  refine wpAnyH_take (i := 2) (v := ?_) rfl (by kernel_rfl) (by kernel_rfl) (by kernel_rfl) (fun _ _ _ h => h) (Or.inl ⟨by rfl, ?_⟩) hHeld ?_
  rotate_left
  · intro w hSw
    have hc := hSw.1
    go_simp
    with_reducible rfl
  simp only [Act.put, List.getElem_toArray, List.getElem_cons_zero, List.getElem_cons_succ, List.setIfInBounds_toArray, List.set_cons_zero, List.set_cons_succ]
  refine tk 4 hHeld ?_
  refine tkl 5 rfl (yieldsIf_load_mid (by rfl) _ _ rfl _ _ rfl _ _ (fun _ h => h.2) Tryz.underlying52 rfl HX.out.2.1) hHeld ?_
  refine rd 3 (fun K hK => ?_)
  go_simp
  go_at_call 179
  refine (HNd.out).mono ?_
  rintro e w1 ⟨a, rfl, e1, hadd⟩
  have HE1 := Lib.hid e1
  have HAdd := Lib.hid hadd
  clear e1 hadd
  go_wp2_with fail
  refine hK.out _ _ (⟨(HKB.out _ HE1.out).2.1, (HKB.out _ HE1.out).1⟩) (fun hHeld => ?_)
  clear hK K
  refine rd 6 (fun K hK => ?_)
  go_simp
  go_at_call 180
  refine (HAdd.out).mono ?_
  rintro e w2 ⟨x, y, rfl, hcm, e2⟩
  have HE2 := Lib.hid e2
  have HCM := Lib.hid hcm
  clear e2 hcm
  go_wp2_with fail
  refine hK.out _ _ (⟨(HKB.out _ HE2.out).2.1, (HKB.out _ HE2.out).1⟩) (fun hHeld => ?_)
  clear hK K
  refine wpAnyH_done (by kernel_rfl) ?_ _
  refine fin (fun W => W = w2) rfl ?_
  rintro W rfl
  obtain ⟨F', ⟨p, mb, ts, Lf, gv, lab, h, hF⟩, hfr, hnw⟩ := HCM.out
  obtain ⟨r1, cb, r3⟩ := HKB.out _ HE2.out
  have c2 := h.c2
  rw [HNow.out] at c2
  have cs := h.cS hk
  have ct := h.cT hk
  have fs := h.row.frozen (3 + k * 2)
  have ft := h.row.frozen (3 + k * 2 + 1)
  have HH := Lib.hid h
  have HFF := Lib.hid (And.intro hF (And.intro hfr hnw))
  have k0 : (0 : Int) ≤ (k : Int) := by omega
  have k1 : (k : Int) < 256 := by omega
  have hgW : g < W.heap.size := h.row.lt
  have hne : g ≠ w.heap.size := by omega
  have hrow2 := (h.row.set (3 + k * 2) (.int .i64 (i : Int))).set (3 + k * 2 + 1) (.int .i64 S.now)
  have HS3 : Hid (((W.setCell ⟨g, 3 + k * 2, none⟩ (.int .i64 (i : Int))).setCell ⟨g, 3 + k * 2 + 1, none⟩ (.int .i64 S.now)).drew.cell? ⟨w.heap.size, 0, none⟩ = some (.int .i64 (i : Int)) ∧ ((W.setCell ⟨g, 3 + k * 2, none⟩ (.int .i64 (i : Int))).setCell ⟨g, 3 + k * 2 + 1, none⟩ (.int .i64 S.now)).drew.cell? ⟨g, 2, none⟩ = some (.int .i64 S.now)) := Lib.hid ⟨by
    refine (HKB.out _ ?_).2.1
    refine Eq.trans ?_ HE2.out
    show ((W.setCell ⟨g, 3 + k * 2, none⟩ (.int .i64 (i : Int))).setCell ⟨g, 3 + k * 2 + 1, none⟩ (.int .i64 S.now)).heap[w.heap.size]? = _
    rw [Go.Deep.blk_setCell_other _ _ _ _ (by show w.heap.size ≠ g; omega), Go.Deep.blk_setCell_other _ _ _ _ (by show w.heap.size ≠ g; omega)], by
    have := hrow2.drew.cell (i := 2) (by omega)
    rw [this, if_neg (by omega), if_neg (by omega)]
    show some (lF p mb S1.now ls lt gv 2) = _
    rw [← HNow.out]; rfl⟩
  have HR2 : Hid (((W.setCell ⟨g, 3 + k * 2, none⟩ (.int .i64 (i : Int))).setCell ⟨g, 3 + k * 2 + 1, none⟩ (.int .i64 S.now)).drew.rowIs g 138 516 (lF p mb S1.now (upf ls k i) (upf lt k S.now) gv)) := Lib.hid (hrow2.drew.congr (fun j hj => by
    rw [← lF_upTick hk, ← lF_upSet hk]))
  clear h hF hfr hnw r1 hrow2
  go_wp2
  go_region_held3 (fun w' => w'.cell? ⟨w.heap.size, 0, none⟩ = some (.int .i64 (i : Int)) ∧ w'.cell? ⟨g, 2, none⟩ = some (.int .i64 S.now)) (first | exact ⟨cb, c2⟩ | exact HS3.out | go_keep)
    (first | (go_at_call 108; refine (HIx.out _).mono ?_; rintro e w3 ⟨rfl, rfl⟩))
  go_wp2
  go_end0
  refine ⟨rfl, ?_⟩
  refine CM.of (w1 := U) ?_ HUB.out
  have hlast := LM.cells (F := F') HH.out HFF.out.1 (now' := S1.now) (grown_trans (grown_set W g _ _) (grown_set _ g _ _)) HR2.out
  exact CM.join HFF.out.2.1 HFF.out.2.2 (hlast.back (bdrewn (Below.refl _ _)))
end
structure LI (S : St) (ls lt : Nat → Int) : Prop where
  set_ : ∀ x P, inS S x P → ls (x % 256).toNat = P.1
  chm : ∀ x, liveS S x = true → (x, lt (x % 256).toNat) ∈ S.ch
  chn : (S.ch.map Prod.fst).Nodup
  gop : S.go.Pairwise (fun a b => a.2 ≤ b.2)
  gon : ∀ x ∈ S.go, x.2 ≤ S.now
def LSB (w : World) (g : Nat) (F : Nat → Prop) (S : St) : Prop := ∃ ls lt, LB w g F S ls lt ∧ LI S ls lt
theorem live_inj {G : Nat → Int} {L : Nat → Bool} {x y : Int} (hx : liveB G L x = true) (hy : liveB G L y = true) (e : (x % 256).toNat = (y % 256).toNat) : x = y := by
  obtain ⟨x0, _, _, x3⟩ := live_iff.1 hx
  obtain ⟨y0, _, _, y3⟩ := live_iff.1 hy
  rw [e] at x3
  omega
theorem live_ok {S : St} {x : Int} (h : liveS S x = true) : idOk x = true := by
  obtain ⟨x0, x1, _⟩ := live_iff.1 h
  unfold idOk
  rw [decide_eq_true x0, decide_eq_true x1]
  rfl
theorem mark_nod {ch : List (Int × Int)} (h : (ch.map Prod.fst).Nodup) (id now : Int) : ((markL ch id now).map Prod.fst).Nodup := by
  unfold markL
  rw [List.map_append]
  refine List.nodup_append.2 ⟨List.Nodup.sublist (List.Sublist.map _ List.filter_sublist) h, by simp, fun a ha b hb e => ?_⟩
  obtain ⟨y, hy, rfl⟩ := List.mem_map.1 ha
  rw [List.mem_filter] at hy
  simp at hb
  rw [e, hb] at hy
  simp at hy
theorem mark_old {ch : List (Int × Int)} {id now x t : Int} (h : (x, t) ∈ ch) (hn : x ≠ id) : (x, t) ∈ markL ch id now := by
  unfold markL
  rw [List.mem_append, List.mem_filter]
  exact Or.inl ⟨h, by simpa using hn⟩
section
variable {S S' : St} {ls lt : Nat → Int}
theorem LI.put (h : LI S ls lt) (hW : WS S) (hW' : WS S') {id : Int} {P : PT} (hin : ∀ x Q, inS S' x Q ↔ (inS S x Q ∧ x ≠ id) ∨ (x = id ∧ Q = P)) (hnow : S'.now = S.now) (hch : S'.ch = markL S.ch id S.now) (hgo : S'.go = S.go) : LI S' (upf ls (id % 256).toNat P.1) (upf lt (id % 256).toNat S.now) := by
  have hid : liveS S' id = true := (hW'.live id).2 ⟨P, (hin id P).2 (Or.inr ⟨rfl, rfl⟩)⟩
  have hoff : ∀ x, liveS S' x = true → x ≠ id → (x % 256).toNat ≠ (id % 256).toNat := fun x hx hn e => hn (live_inj hx hid e)
  refine ⟨fun x Q hx => ?_, fun x hx => ?_, by rw [hch]; exact mark_nod h.chn _ _, by rw [hgo]; exact h.gop, by rw [hgo, hnow]; exact h.gon⟩
  · have hl : liveS S' x = true := (hW'.live x).2 ⟨Q, hx⟩
    unfold upf
    rcases (hin x Q).1 hx with ⟨h1, h2⟩ | ⟨rfl, rfl⟩
    · rw [if_neg (hoff x hl h2)]; exact h.set_ x Q h1
    · rw [if_pos rfl]
  · unfold upf
    rw [hch]
    obtain ⟨Q, hQ⟩ := (hW'.live x).1 hx
    rcases (hin x Q).1 hQ with ⟨h1, h2⟩ | ⟨rfl, rfl⟩
    · rw [if_neg (hoff x hx h2)]
      exact mark_old (h.chm x ((hW.live x).2 ⟨Q, h1⟩)) h2
    · rw [if_pos rfl]
      exact mark_new _ _ _
theorem LI.cut (h : LI S ls lt) (hW : WS S) (hW' : WS S') {id : Int} (hin : ∀ x Q, inS S' x Q ↔ inS S x Q ∧ x ≠ id) (hnow : S'.now = S.now) (hch : S'.ch = S.ch) (hgo : S'.go = S.go ++ [(id, S.now)]) : LI S' ls lt := by
  refine ⟨fun x Q hx => h.set_ x Q ((hin x Q).1 hx).1, fun x hx => ?_, by rw [hch]; exact h.chn, ?_, ?_⟩
  · obtain ⟨Q, hQ⟩ := (hW'.live x).1 hx
    rw [hch]
    exact h.chm x ((hW.live x).2 ⟨Q, ((hin x Q).1 hQ).1⟩)
  · rw [hgo]
    exact List.pairwise_append.2 ⟨h.gop, by simp, fun a ha b hb => by simp at hb; rw [hb]; exact h.gon a ha⟩
  · rw [hgo, hnow]
    intro x hx
    rw [List.mem_append] at hx
    rcases hx with hx | hx
    · exact h.gon x hx
    · simp at hx; rw [hx]; exact Int.le_refl _
theorem LI.mark_ (h : LI S ls lt) {id : Int} (hl : liveS S id = true) : LI (to1 S id) ls (upf lt (id % 256).toNat S.now) := by
  have e : to1 S id = { S with ch := markL S.ch id S.now } := by unfold to1; rw [if_pos hl]
  rw [e]
  refine ⟨h.set_, fun x hx => ?_, mark_nod h.chn _ _, h.gop, h.gon⟩
  have hx' : liveS S x = true := hx
  show (x, upf lt (id % 256).toNat S.now (x % 256).toNat) ∈ markL S.ch id S.now
  unfold upf
  by_cases c : x = id
  · rw [if_pos (by rw [c]), c]; exact mark_new _ _ _
  · rw [if_neg (fun e => c (live_inj hx' hl e))]
    exact mark_old (h.chm x hx') c
theorem LI.ne (h : LI S ls lt) : LI (neS S) ls lt := ⟨h.set_, h.chm, h.chn, h.gop, fun x hx => by have := h.gon x hx; show x.2 ≤ S.now + 1; omega⟩
theorem getB_live (hW : WS S) (id : Int) : getB S id = liveS S id := by
  cases c : liveS S id with
  | true => exact getB_iff.2 ((hW.live id).1 c)
  | false =>
    cases d : getB S id with
    | false => rfl
    | true => exact absurd ((hW.live id).2 (getB_iff.1 d)) (by rw [c]; simp)
theorem at_live (hW : WS S) {id : Int} {i : Nat} (ha : atS S id = some i) : liveS S id = true := by
  rw [← getB_live hW]; unfold getB; rw [ha]; rfl
theorem at_dead (hW : WS S) {id : Int} (ha : atS S id = none) : liveS S id = false := by
  rw [← getB_live hW]; unfold getB; rw [ha]; rfl
end
theorem LM.there {w : World} {g p mb : Nat} {S : St} {ls lt : Nat → Int} {ts : Nat → Option Nat} {Lf : Nat → Nat → Prop} {gv : Value} {lab : Nat → Nat} (h : LM w g S p mb ls lt ts Lf gv lab) (hI : LI S ls lt) (hW : WS S) {id : Int} {i : Nat} (ha : atS S id = some i) :
    idOk id = true ∧ i < 32 ∧ ls (id % 256).toNat = (i : Int) ∧ ∃ a, ts i = some a := by
  obtain ⟨hi, hh⟩ := at_some ha
  have hg := at_get hW ha
  have hP : (getP S id).1 = (i : Int) := (fits_iff.1 (hW.fit i hi _ hg)).2
  refine ⟨live_ok (at_live hW ha), hi, by rw [hI.set_ id _ ⟨i, hi, hg⟩, hP], ?_⟩
  have ht := h.tab i hi
  cases hts : ts i with
  | some a => exact ⟨a, rfl⟩
  | none =>
    rw [hts] at ht
    rw [ht.1] at hg
    cases hg
theorem LSB.of_cm {w w' : World} {g : Nat} {F : Nat → Prop} {S : St} {ls lt : Nat → Int} (h : CM w w' g F S ls lt) (hI : LI S ls lt) : Chg LSB w w' g F S := by
  obtain ⟨F', h1, h2, h3⟩ := h
  exact ⟨F', ⟨ls, lt, h1, hI⟩, h2, h3⟩
theorem LSB.still {w w' : World} {g : Nat} {F : Nat → Prop} {S : St} (h : LSB w g F S) (hb : Below w.heap.size w w') : Chg LSB w w' g F S := by
  obtain ⟨ls, lt, h1, h2⟩ := h
  exact LSB.of_cm (CM.still h1 hb) h2
theorem LSB.keep {w w' : World} {g : Nat} {F : Nat → Prop} {S : St} (h : LSB w g F S) (hb : Below w.heap.size w w') : LSB w' g F S := by
  obtain ⟨ls, lt, h1, h2⟩ := h
  exact ⟨ls, lt, h1.keep hb, h2⟩
theorem LSB.inH {w : World} {g : Nat} {F : Nat → Prop} {S : St} (h : LSB w g F S) : g < w.heap.size := by
  obtain ⟨ls, lt, h1, h2⟩ := h
  exact h1.inH
theorem LSB.live {w : World} {g : Nat} {F : Nat → Prop} {S : St} (h : LSB w g F S) : ∃ p, w.cell? ⟨g, 0, none⟩ = some (.pointer (some ⟨p, 0, none⟩)) ∧ (∀ id, Calls Tryz.prog 61 #[.pointer (some ⟨p, 0, none⟩), .int .i64 id] w fun e w' => e = .returned (.bool (liveS S id)) ∧ Below w.heap.size w w') ∧ (POk S.room S.G S.L → Calls Tryz.prog 161 #[.pointer (some ⟨p, 0, none⟩)] w fun e w' => ∃ a cap, e = .returned (.slice a (alS S).length cap) ∧ Row w' a (alS S).length (alS S) ∧ Below w.heap.size w w') := by
  obtain ⟨ls, lt, ⟨p, mb, ts, Lf, gv, lab, h1, hF⟩, h2⟩ := h
  exact ⟨p, h1.c0, fun id => qlive p S.room S.G S.L id w h1.pool, fun hp => qall p S.room S.G S.L w hp h1.pool⟩

theorem b9zero (W : World) : (Instr.build 52 #[]).run Tryz.prog W = .ok (.agg (pl zT).toArray) W := by kernel_rfl
theorem wpList_bld9 {ops : Array Oper} {rest : List Oper} {op : Oper} {a : Go.Act} {w : World} {Q : Exit → Go.Act → World → Prop} (hgd : op.guard = none) (t : TypeId) (ho : op.op = .build t #[]) (vr : Value)
    (hrun : ∀ W, (Instr.build t #[]).run Tryz.prog W = .ok vr W)
    (h : wpList Tryz.prog ops Q rest (a.put op.dst vr) w) : wpList Tryz.prog ops Q (op :: rest) a w :=
  wpList_plain hgd fun K hK => by
    have h2 := hK _ _ h
    unfold Oper.wp execOp
    simp only [ho]
    simp [hrun]
    exact h2
set_option maxHeartbeats 4000000 in
set_option maxRecDepth 100000 in
theorem lget_any {w : World} {g : Nat} {F : Nat → Prop} {S : St} (h0 : LSB w g F S) (hW : WS S) (hB : Bd S 1000) (id : Int) :
    Calls Tryz.prog 213 #[.pointer (some ⟨g, 0, none⟩), .int .i64 id] w fun e w' => ∃ Y, e = .returned (.tuple #[.agg (List.toArray Y), .bool (getB S id)]) ∧ Y = pl (getP S id) ∧ Below w.heap.size w w' := by
  obtain ⟨p, c0, hlv, _⟩ := h0.live
  have HLv : Hid (∀ u, Below w.heap.size w u → Calls Tryz.prog 61 #[.pointer (some ⟨p, 0, none⟩), .int .i64 id] u fun e w' => e = .returned (.bool (liveS S id)) ∧ Below u.heap.size u w') := Lib.hid (fun u k => by
    obtain ⟨p', c0', hlv', _⟩ := (h0.keep k).live
    rw [cell_keep c0 k] at c0'
    injection c0' with c0'
    injection c0' with c0'
    injection c0' with c0'
    injection c0' with c0'
    rw [c0']
    exact hlv' id)
  have HPX := Lib.hid (pxs (getP S id))
  have hg := h0.inH
  have K4 := Lib.hid (Blk.new w 52 Z24.toArray)
  have HB4 : Hid (Below w.heap.size w (w.alloc (.cells Z24.toArray 52))) := Lib.hid (alloc_below _ _)
  have c4 := cell_keep c0 HB4.out
  clear c0 hlv
  cases ha : atS S id with
  | none =>
    have e3 : getB S id = false := by unfold getB; rw [ha]; rfl
    have e4 : getP S id = zT := by unfold getP; rw [ha]
    rw [at_dead hW ha] at HLv
    rw [e3]
    have HBd : Hid (∀ W, (Instr.build 52 #[]).run Tryz.prog W = .ok (.agg (pl (getP S id)).toArray) W) := Lib.hid (by rw [e4]; exact b9zero)
    obtain ⟨Xp, hXp⟩ : ∃ Xp, Xp = pl (getP S id) := ⟨_, rfl⟩
    rw [← hXp] at HPX HBd ⊢
    clear hXp e3 e4 ha h0 hW hB
    go_enter Tryz.func213, Tryz.ntmps213
    go_upto_region 1 with fail
    refine fin (fun W => Blk W w.heap.size 52 Z24.toArray ∧ Below w.heap.size w W ∧ W.cell? ⟨g, 0, none⟩ = some (.pointer (some ⟨p, 0, none⟩))) ⟨K4.out, HB4.out, c4⟩ ?_
    clear K4 HB4 c4
    rintro W0 ⟨k4, b4, c4⟩
    have K4 := Lib.hid k4
    have HB4 := Lib.hid b4
    have zg : g < W0.heap.size := Nat.lt_of_lt_of_le hg b4.size
    clear k4 b4
    go_wp2_with fail
    refine (HLv.out _ HB4.out).mono ?_
    rintro e w1 ⟨rfl, b1⟩
    replace K4 := Lib.hid (Blk.keep K4.out b1)
    replace HB4 := Lib.hid (bthen HB4.out b1)
    have HT4 : Hid (w1.there w.heap.size 0 Xp.toArray.size) := Lib.hid (blk_there K4.out (by rw [List.size_toArray, HPX.out.1]; exact Nat.le_refl 24))
    have L4 : Hid (Blk (w1.setCells w.heap.size 0 Xp) w.heap.size 52 Xp.toArray) := Lib.hid (blk_over K4.out (by rw [HPX.out.1]; rfl))
    have z1 := K4.out.lt
    clear b1
    go_wp2_with (first | refine wpList_bld9 rfl 52 rfl (.agg Xp.toArray) HBd.out ?_ | refine wpList_store_mid rfl 52 (.tmp 4) (.tmp 22) rfl w.heap.size 0 Xp.toArray rfl rfl HT4.out HPX.out.2.2.1 HPX.out.2.2.2 ?_)
    refine fin (fun W => Blk W w.heap.size 52 Xp.toArray ∧ Below w.heap.size w W) ⟨L4.out, below_setCells _ HB4.out (Nat.le_refl _)⟩ ?_
    rintro W ⟨kr, hb⟩
    have hl := run_loadVar_mid W w.heap.size 0 52 Xp _ (blk_whole kr) Tryz.underlying52 rfl HPX.out.2.1
    try simp only [Go.Act.put, List.setIfInBounds_toArray, List.set_cons_zero, List.set_cons_succ]
    exact bodyPost_ret (v := .tuple #[.agg Xp.toArray, .bool false]) (results_cell2 Tryz.results213 rfl rfl hl) rfl ⟨Xp, rfl, rfl, hb⟩
  | some i =>
    have e3 : getB S id = true := by unfold getB; rw [ha]; rfl
    obtain ⟨hi, hh⟩ := at_some ha
    obtain ⟨r, hrl, hfr, hrid, hin⟩ := find_row (hW.nod i hi) hh
    have e4 : getP S id = ((S.T i).getD (findI (S.T i) id).toNat d0).2 := by unfold getP; rw [ha]
    rw [at_live hW ha] at HLv
    rw [e3]
    obtain ⟨ls, lt, ⟨p2, mb, ts, Lf, gv, lab, h, hF⟩, hI⟩ := h0
    obtain ⟨ho, _, hls, a, hts⟩ := h.there hI hW ha
    have HFi : Hid (∀ u, Below w.heap.size w u → Calls Tryz.prog 185 #[.pointer (some ⟨g, 0, none⟩), .int .i64 id] u fun e w' => e = .returned (.tuple #[.pointer (some ⟨a, 0, none⟩), .int .i64 (findI (S.T i) id)]) ∧ Below u.heap.size u w') := Lib.hid (fun u k => lfind_any (h.keep k) id ho hi hls hts (hB.2.2.1 i hi))
    have HRw : Hid (∀ u, Below w.heap.size w u → Calls Tryz.prog 262 #[.pointer (some ⟨a, 0, none⟩), .int .i64 (findI (S.T i) id)] u fun e w' => ∃ x : Int, e = .returned (.tuple #[.int .i64 x, .agg (pl (getP S id)).toArray, .bool true]) ∧ Below u.heap.size u w') := Lib.hid (fun u k => by
      have ht := (h.keep k).tab i hi
      rw [hts] at ht
      refine (trow_any u a (Lf i) i (S.T i) (findI (S.T i) id) (hB.2.2.1 i hi) ht).mono ?_
      rintro e w' ⟨x, P, rfl, q1, q2⟩
      have := q1 hin
      refine ⟨x, ?_, q2⟩
      rw [hin, e4, ← this])
    obtain ⟨Xp, hXp⟩ : ∃ Xp, Xp = pl (getP S id) := ⟨_, rfl⟩
    rw [← hXp] at HPX HRw ⊢
    obtain ⟨q, hq⟩ : ∃ q, q = findI (S.T i) id := ⟨_, rfl⟩
    rw [← hq] at HFi HRw
    clear hXp hq e3 e4 ha hW hB hh hrl hfr hrid hin h hF hI ho hls hts
    go_enter Tryz.func213, Tryz.ntmps213
    go_upto_region 1 with fail
    refine fin (fun W => Blk W w.heap.size 52 Z24.toArray ∧ Below w.heap.size w W ∧ W.cell? ⟨g, 0, none⟩ = some (.pointer (some ⟨p, 0, none⟩))) ⟨K4.out, HB4.out, c4⟩ ?_
    clear K4 HB4 c4
    rintro W0 ⟨k4, b4, c4⟩
    have K4 := Lib.hid k4
    have HB4 := Lib.hid b4
    have zg : g < W0.heap.size := Nat.lt_of_lt_of_le hg b4.size
    clear k4 b4
    go_wp2_with fail
    refine (HLv.out _ HB4.out).mono ?_
    rintro e w1 ⟨rfl, b1⟩
    replace K4 := Lib.hid (Blk.keep K4.out b1)
    replace HB4 := Lib.hid (bthen HB4.out b1)
    clear b1 c4
    go_wp2_with fail
    refine (HFi.out _ HB4.out).mono ?_
    rintro e w2 ⟨rfl, b1⟩
    replace K4 := Lib.hid (Blk.keep K4.out b1)
    replace HB4 := Lib.hid (bthen HB4.out b1)
    clear b1
    go_wp2_with fail
    refine (HRw.out _ HB4.out).mono ?_
    rintro e w3 ⟨x, rfl, b1⟩
    replace K4 := Lib.hid (Blk.keep K4.out b1)
    replace HB4 := Lib.hid (bthen HB4.out b1)
    clear b1
    have KA := Lib.hid (Blk.new w3 52 Z24.toArray)
    have HTA : Hid ((w3.alloc (.cells Z24.toArray 52)).there w3.heap.size 0 Xp.toArray.size) := Lib.hid (blk_there KA.out (by rw [List.size_toArray, HPX.out.1]; exact Nat.le_refl 24))
    have HBA : Hid (Below w3.heap.size w3 ((w3.alloc (.cells Z24.toArray 52)).setCells w3.heap.size 0 Xp)) := Lib.hid (below_setCells Xp (alloc_below _ _) (Nat.le_refl _))
    have LA : Hid (Blk ((w3.alloc (.cells Z24.toArray 52)).setCells w3.heap.size 0 Xp) w3.heap.size 52 Xp.toArray) := Lib.hid (by
      have := blk_setCells Xp (o := 0) KA.out (by rw [HPX.out.1]; exact Nat.le_refl 24)
      rwa [splice_all (by rw [HPX.out.1]; rfl)] at this)
    go_upto_region 5 with (refine wpList_store_mid rfl 52 (.tmp 9) (.tmp 34) rfl w3.heap.size 0 Xp.toArray rfl rfl HTA.out HPX.out.2.2.1 HPX.out.2.2.2 ?_)
    refine fin (fun W => Blk W w3.heap.size 52 Xp.toArray ∧ Blk W w.heap.size 52 Z24.toArray ∧ Below w.heap.size w W) ⟨LA.out, Blk.keep K4.out HBA.out, bthen HB4.out HBA.out⟩ ?_
    obtain ⟨g9, hg9⟩ : ∃ g9, g9 = w3.heap.size := ⟨_, rfl⟩
    rw [← hg9]
    clear KA HTA HBA LA HB4 hg9 K4
    rintro W ⟨k9, k4, hb⟩
    have K9 := Lib.hid (blk_whole k9)
    have z9 := k9.lt
    have z4 := k4.lt
    have HB5 := Lib.hid hb
    have HT4 : Hid (W.there w.heap.size 0 Xp.toArray.size) := Lib.hid (blk_there k4 (by rw [List.size_toArray, HPX.out.1]; exact Nat.le_refl 24))
    have L4 : Hid (Blk (W.setCells w.heap.size 0 Xp) w.heap.size 52 Xp.toArray) := Lib.hid (blk_over k4 (by rw [HPX.out.1]; rfl))
    clear k9 k4 hb
    go_wp2_with (first | refine wpList_load_mid rfl 52 (.tmp 9) rfl g9 0 rfl Xp _ K9.out Tryz.underlying52 rfl HPX.out.2.1 ?_ | refine wpList_store_mid rfl 52 (.tmp 4) (.tmp 36) rfl w.heap.size 0 Xp.toArray rfl rfl HT4.out HPX.out.2.2.1 HPX.out.2.2.2 ?_)
    refine fin (fun W => Blk W w.heap.size 52 Xp.toArray ∧ Below w.heap.size w W) ⟨L4.out, below_setCells _ HB5.out (Nat.le_refl _)⟩ ?_
    rintro W2 ⟨kr, hb⟩
    have hl := run_loadVar_mid W2 w.heap.size 0 52 Xp _ (blk_whole kr) Tryz.underlying52 rfl HPX.out.2.1
    try simp only [Go.Act.put, List.setIfInBounds_toArray, List.set_cons_zero, List.set_cons_succ]
    exact bodyPost_ret (v := .tuple #[.agg Xp.toArray, .bool true]) (results_cell2 Tryz.results213 rfl rfl hl) rfl ⟨Xp, rfl, rfl, hb⟩

theorem live_to9 (S : St) (x y : Int) : liveS (to1 S x) y = liveS S y := by unfold to1; split <;> rfl
theorem live_tos9 : ∀ (l : List Int) (S : St) (y : Int), liveS (toS S l) y = liveS S y
  | [], _, _ => rfl
  | x :: l, S, y => by
    show liveS (toS (to1 S x) l) y = _
    rw [live_tos9 l, live_to9]
theorem tos_snoc9 {S : St} {xs : List Int} {k : Nat} {x : Int} (h : xs[k]? = some x) : toS S (xs.take (k + 1)) = to1 (toS S (xs.take k)) x := by
  unfold toS
  rw [List.take_add_one, h, List.foldl_append]
  rfl
theorem ton_snoc9 {S : St} {xs : List Int} {k : Nat} {x : Int} (h : xs[k]? = some x) : toN S (xs.take (k + 1)) = toN S (xs.take k) + (if liveS S x then 1 else 0) := by
  unfold toN
  rw [List.take_add_one, h, List.filter_append, List.length_append]
  by_cases c : liveS S x = true
  · simp [c]
  · simp [c]
theorem Chg.joins {w w1 w2 : World} {g : Nat} {F F1 : Nat → Prop} {S : St} (hf : Fr w w1 F) (hn : ∀ b, F1 b → F b ∨ w.heap.size ≤ b) (k : Chg LSB w1 w2 g F1 S) : Chg LSB w w2 g F S := by
  obtain ⟨F2, ⟨ls, lt, h1, hI⟩, h2, h3⟩ := k
  obtain ⟨F3, q1, q2, q3⟩ := CM.join hf hn ⟨F2, h1, h2, h3⟩
  exact ⟨F3, ⟨ls, lt, q1, hI⟩, q2, q3⟩
theorem LSB.ticked {u : World} {g : Nat} {F : Nat → Prop} {S : St} (h : LSB u g F S) {id : Int} (hl : liveS S id = true) :
    ∃ k : Nat, k < 256 ∧ (∀ w', Calls Tryz.prog 108 #[.int .i64 id] w' fun e w'' => e = .returned (.int .i64 (k : Int)) ∧ w' = w'') ∧ u.cell? ⟨g, 2, none⟩ = some (.int .i64 S.now) ∧ (∃ v, u.cell? ⟨g, 3 + k * 2 + 1, none⟩ = some (.int .i64 v)) ∧ u.frozen? ⟨g, 3 + k * 2 + 1, none⟩ = false ∧
      (u.setCell ⟨g, 3 + k * 2 + 1, none⟩ (.int .i64 S.now)).drew.cell? ⟨g, 2, none⟩ = some (.int .i64 S.now) ∧ Chg LSB u (u.setCell ⟨g, 3 + k * 2 + 1, none⟩ (.int .i64 S.now)).drew g F (to1 S id) := by
  obtain ⟨ls, lt, ⟨p, mb, ts, Lf, gv, lab, h1, hF⟩, hI⟩ := h
  obtain ⟨k, hk, hk2, hix⟩ := ix_any (live_ok hl)
  have hr := h1.row.set (3 + k * 2 + 1) (.int .i64 S.now)
  refine ⟨k, hk, hix, h1.c2, ⟨_, h1.cT hk⟩, h1.row.frozen _, ?_, ?_⟩
  · rw [hr.drew.cell (by omega), if_neg (by omega)]; rfl
  · have hI2 := hI.mark_ hl
    rw [hk2] at hI2
    refine LSB.of_cm ?_ hI2
    have e : to1 S id = { S with ch := markL S.ch id S.now } := by unfold to1; rw [if_pos hl]
    rw [e]
    have hc := LM.cells (F := F) h1 hF (now' := S.now) (grown_set u g _ _) (ls' := ls) (lt' := upf lt k S.now) (hr.congr (fun j _ => lF_upTick hk _ j))
    obtain ⟨F', ⟨p', mb', ts', Lf', gv', lab', q1, q2⟩, q3, q4⟩ := hc.back (w2 := (u.setCell ⟨g, 3 + k * 2 + 1, none⟩ (.int .i64 S.now)).drew) (bdrewn (Below.refl _ _))
    exact ⟨F', ⟨p', mb', ts', Lf', gv', lab', ⟨q1.row, q1.pool, q1.map, q1.tab, q1.gos, q1.lg, q1.lp, q1.lm, q1.lv, q1.lT⟩, q2⟩, q3, q4⟩

set_option maxHeartbeats 4000000 in
set_option maxRecDepth 100000 in
theorem ltouch_any {w : World} {g : Nat} {F : Nat → Prop} {S : St} (h0 : LSB w g F S) (a : Option Addr) (n cap : Nat) (xs : List Int) (hn : n ≤ 1000) (row : Row w a n xs) (haw : Aw F a n) :
    Calls Tryz.prog 65 #[.pointer (some ⟨g, 0, none⟩), .slice a n cap] w fun e w' => e = .returned (.int .i64 (toN S xs : Nat)) ∧ Chg LSB w w' g F (toS S xs) := by
  have HRow := Lib.hid row
  have HAw := Lib.hid haw
  have HL := Lib.hid row.1
  have hbig := row.2.1
  have H0 := Lib.hid h0
  clear row haw h0
  go_enter Tryz.func65, Tryz.ntmps65
  go_wp2
  go_loopw [5, 12] (fun v5 i wr => ∃ k : Nat, k ≤ n ∧ i = .int .i64 k ∧ v5 = .int .i64 (toN S (xs.take k) : Nat) ∧ Chg LSB w wr g F (toS S (xs.take k))) (fun _ i _ => n - (ivl i).toNat)
  case atStart => exact ⟨0, by omega, rfl, rfl, LSB.still H0.out (Below.refl _ _)⟩
  case round =>
    obtain ⟨k, hk, rfl, rfl, hch⟩ := hrel
    obtain ⟨F1, hrb, hfr, hnew⟩ := hch
    have HRB := Lib.hid hrb
    have HFr := Lib.hid (And.intro hfr hnew)
    have hg : g < wr.heap.size := hrb.inH
    clear hfr hnew
    by_cases hlt : k < n
    · obtain ⟨b, off, x, rfl, hx, cx⟩ := row_at (row_frame HRow.out HAw.out HFr.out.1) hlt
      have hb := World.block_lt_of_cell? _ _ cx
      have k0 : (0 : Int) ≤ (k : Int) := by omega
      have k1 : (k : Int) < (n : Int) := by omega
      have HSn := Lib.hid (tos_snoc9 (S := S) hx)
      have HNn := Lib.hid (ton_snoc9 (S := S) hx)
      obtain ⟨p, cp, hlv, _⟩ := hrb.live
      have HLv := Lib.hid (hlv x)
      rw [live_tos9] at HLv
      obtain ⟨c, hc⟩ : ∃ c, c = toN S (xs.take k) := ⟨_, rfl⟩
      have hcl : c ≤ n := by rw [hc]; unfold toN; refine Nat.le_trans (List.length_filter_le _ _) ?_; rw [List.length_take]; omega
      rw [← hc] at HNn ⊢
      clear hlv hx hc hrb
      cases hlx : liveS S x with
      | false =>
        have e1 : Hid (toS S (xs.take (k + 1)) = toS S (xs.take k)) := Lib.hid (by rw [HSn.out]; unfold to1; rw [live_tos9, hlx]; rfl)
        rw [hlx] at HNn HLv
        clear hlx
        go_wp2_with fail
        refine HLv.out.mono ?_
        rintro e w1 ⟨rfl, b1⟩
        have HC : Hid (Chg LSB w w1 g F (toS S (xs.take k))) := Lib.hid (Chg.joins HFr.out.1 HFr.out.2 (LSB.still HRB.out b1))
        clear b1
        go_wp2
        go_roundw
        case rel => exact ⟨k + 1, by omega, by go_num, by rw [HNn.out]; rfl, by rw [e1.out]; exact HC.out⟩
        case measure => simp [ivl] <;> omega
      | true =>
        have hl2 : Hid (liveS (toS S (xs.take k)) x = true) := Lib.hid (by rw [live_tos9, hlx])
        rw [hlx] at HNn HLv
        clear hlx
        go_wp2_with fail
        refine HLv.out.mono ?_
        rintro e w1 ⟨rfl, b1⟩
        obtain ⟨j, hj, hix, c2, ⟨v, ct⟩, ft, c2', hcc⟩ := (HRB.out.keep b1).ticked hl2.out
        have HIx := Lib.hid hix
        have HC : Hid (Chg LSB w (w1.setCell ⟨g, 3 + j * 2 + 1, none⟩ (.int .i64 (toS S (xs.take k)).now)).drew g F (toS S (xs.take (k + 1)))) := Lib.hid (by
          rw [HSn.out]
          exact Chg.joins (Fr.behind HFr.out.1 b1) HFr.out.2 hcc)
        obtain ⟨now, hnow⟩ : ∃ now, now = (toS S (xs.take k)).now := ⟨_, rfl⟩
        rw [← hnow] at c2 c2' HC
        have hg1 : g < w1.heap.size := Nat.lt_of_lt_of_le hg b1.size
        have j0 : (0 : Int) ≤ (j : Int) := by omega
        have j1 : (j : Int) < 256 := by omega
        have HC2 := Lib.hid c2'
        clear b1 hcc hix hnow c2' cp cx
        go_wp2
        go_region_held3 (fun w' => w'.cell? ⟨g, 2, none⟩ = some (.int .i64 now)) (first | exact c2 | exact HC2.out | go_keep)
          (first | (go_at_call 108; refine (HIx.out _).mono ?_; rintro e w3 ⟨rfl, rfl⟩))
        refine fin (fun W => Chg LSB w W g F (toS S (xs.take (k + 1)))) HC.out ?_
        rintro W hcw
        have HCW := Lib.hid hcw
        clear hcw HC HC2 c2 ct ft
        go_wp2
        go_roundw
        case rel => exact ⟨k + 1, by omega, by go_num, by rw [HNn.out]; go_num, HCW.out⟩
        case measure => simp [ivl] <;> omega
    · obtain rfl : k = n := by omega
      have e0 : xs.take k = xs := List.take_of_length_le (by have := HL.out; omega)
      rw [e0] at HRB ⊢
      clear hrb
      go_wp2
      go_ret
      exact ⟨rfl, F1, HRB.out, HFr.out.1, HFr.out.2⟩

theorem CM.chs {w w' : World} {g : Nat} {F : Nat → Prop} {S : St} {ls lt : Nat → Int} (h : CM w w' g F S ls lt) (c : List (Int × Int)) : CM w w' g F { S with ch := c } ls lt := by
  obtain ⟨F', ⟨p, mb, ts, Lf, gv, lab, q1, q2⟩, q3, q4⟩ := h
  exact ⟨F', ⟨p, mb, ts, Lf, gv, lab, ⟨q1.row, q1.pool, q1.map, q1.tab, q1.gos, q1.lg, q1.lp, q1.lm, q1.lv, q1.lT⟩, q2⟩, q3, q4⟩
set_option maxHeartbeats 1000000 in
set_option maxRecDepth 100000 in
theorem tset_any {w : World} {a : Nat} {L : Nat → Prop} {s : Int} {R : TR} (h : TBl w a L s R) :
    Calls Tryz.prog 272 #[.pointer (some ⟨a, 0, none⟩)] w fun e w' => e = .returned (.int .i64 s) ∧ w = w' := by
  obtain ⟨v, h1, _⟩ := h
  have c0 := h1.set0
  have hg := h1.blk.lt
  clear h1
  go_enter Tryz.func272, Tryz.ntmps272
  go_wp2
  go_ret
  exact ⟨rfl, rfl⟩
theorem LI.row {S : St} {ls lt : Nat → Int} (h : LI S ls lt) (hW : WS S) {id : Int} {i : Nat} (ha : atS S id = some i) {P : PT} (hf : fitsB i P = true) : LI { S with T := upf S.T i (tpuR i (S.T i) (findI (S.T i) id) P) } ls lt := by
  obtain ⟨hi, hh⟩ := at_some ha
  refine ⟨?_, h.chm, h.chn, h.gop, h.gon⟩
  rintro x Q ⟨j, hj, hm⟩
  change (x, Q) ∈ upf S.T i (tpuR i (S.T i) (findI (S.T i) id) P) j at hm
  unfold upf at hm
  by_cases c : j = i
  · rw [if_pos c] at hm
    rcases (mem_put (hW.nod i hi) hh hf).1 hm with ⟨h1, h2⟩ | h1
    · exact h.set_ x Q ⟨i, hi, h1⟩
    · injection h1 with h1 h2
      have hg := at_get hW ha
      rw [h1, h2, h.set_ id _ ⟨i, hi, hg⟩, (fits_iff.1 (hW.fit i hi _ hg)).2, (fits_iff.1 hf).2]
  · rw [if_neg c] at hm
    exact h.set_ x Q ⟨j, hj, hm⟩

set_option maxHeartbeats 4000000 in
set_option maxRecDepth 100000 in
theorem lreplace_any {w : World} {g : Nat} {F : Nat → Prop} {S : St} (h0 : LSB w g F S) (hW : WS S) (hB : Bd S 1000) (id : Int) {i : Nat} (ha : atS S id = some i) (P : PT) (hrt : rightT P = true) :
    Calls Tryz.prog 231 #[.pointer (some ⟨g, 0, none⟩), .int .i64 id, .agg (pl P).toArray] w fun e w' => e = .returned (.tuple #[]) ∧ Chg LSB w w' g F (layS S id P) := by
  obtain ⟨k32, hkP, _, _⟩ := right_has hrt
  obtain ⟨k, hk⟩ : ∃ k, k = P.1.toNat := ⟨_, rfl⟩
  rw [← hk] at k32 hkP
  have hLy : layS S id P = { S with T := layTs S.T i id P, ch := markL S.ch id S.now } := by unfold layS; rw [ha]
  obtain ⟨ls, lt, ⟨p, mb, ts, Lf, gv, lab, h, hF⟩, hI⟩ := h0
  obtain ⟨ho, hi, hls, a, hts⟩ := h.there hI hW ha
  have hR := hB.2.2.1 i hi
  have HFi : Hid (∀ u, Below w.heap.size w u → Calls Tryz.prog 185 #[.pointer (some ⟨g, 0, none⟩), .int .i64 id] u fun e w' => e = .returned (.tuple #[.pointer (some ⟨a, 0, none⟩), .int .i64 (findI (S.T i) id)]) ∧ Below u.heap.size u w') := Lib.hid (fun u q => lfind_any (h.keep q) id ho hi hls hts hR)
  have HSt : Hid (∀ u, Below w.heap.size w u → Calls Tryz.prog 272 #[.pointer (some ⟨a, 0, none⟩)] u fun e w' => e = .returned (.int .i64 (i : Int)) ∧ w' = u) := Lib.hid (fun u q => by
    have ht := (h.keep q).tab i hi
    rw [hts] at ht
    exact (tset_any ht).mono fun _ _ z => ⟨z.1, z.2.symm⟩)
  have HRem : Hid (i ≠ k → ∀ u, Below w.heap.size w u → Calls Tryz.prog 116 #[.pointer (some ⟨g, 0, none⟩), .int .i64 id] u fun e w1 => e = .returned (.tuple #[]) ∧ (∀ b, u.heap.size > b → ¬ F b → w1.heap[b]? = u.heap[b]?) ∧ Calls Tryz.prog 112 #[.pointer (some ⟨g, 0, none⟩), .int .i64 id, .agg (pl P).toArray] w1 fun e w2 => e = .returned (.tuple #[]) ∧ Chg LSB w w2 g F (layS S id P)) := Lib.hid (fun hik u q => by
    refine (lremove_any (F := F) (h.keep q) hF id ho hi hls hts hR).mono ?_
    rintro e w1 ⟨rfl, F1, hb1, hf1, hn1⟩
    refine ⟨rfl, fun b hb hn => hf1.2.2.2.2 b hb hn, ?_⟩
    have hTk : (upf S.T i (tcuR (S.T i) (findI (S.T i) id))) k = S.T k := by unfold upf; rw [if_neg (fun e => hik e.symm)]
    refine (ladd_any hb1 id ho P k32 hkP.symm (by show (upf S.T i (tcuR (S.T i) (findI (S.T i) id)) k).length ≤ 1000; rw [hTk]; exact hB.2.2.1 k k32)).mono ?_
    rintro e w2 ⟨rfl, hc⟩
    refine ⟨rfl, ?_⟩
    have hc2 := ((CM.join hf1 hn1 hc).of q).chs (markL S.ch id S.now)
    obtain ⟨hW', hin⟩ := ws_lay hW ha hrt
    have hI' := hI.put hW hW' hin (by rw [hLy]) (by rw [hLy]) (by rw [hLy])
    rw [← hkP] at hI'
    refine LSB.of_cm ?_ hI'
    rw [hLy]
    have eT : layTs S.T i id P = upf (upf S.T i (tcuR (S.T i) (findI (S.T i) id))) k (tadR k (upf S.T i (tcuR (S.T i) (findI (S.T i) id)) k) id P) := by
      unfold layTs
      rw [← hk, if_neg hik, hkP]
    rw [eT]
    exact hc2)
  have HPut : Hid (i = k → ∀ u, Below w.heap.size w u → Calls Tryz.prog 273 #[.pointer (some ⟨a, 0, none⟩), .int .i64 (findI (S.T i) id), .agg (pl P).toArray] u fun e w1 => ∃ z : Int, e = .returned (.int .i64 z) ∧ g < w1.heap.size ∧ Calls Tryz.prog 65 #[.pointer (some ⟨g, 0, none⟩), .slice (some ⟨w1.heap.size, 0, none⟩) 1 1] (w1.alloc (.cells #[.int .i64 id] 81)) fun e w2 => ∃ z : Int, e = .returned (.int .i64 z) ∧ Chg LSB w w2 g F (layS S id P)) := Lib.hid (fun hik u q => by
    have hf : fitsB i P = true := fits_iff.2 ⟨hrt, by rw [hik, hkP]⟩
    have h1 := h.keep q
    have ht := h1.tab i hi
    rw [hts] at ht
    refine (tput_any u a (Lf i) i (S.T i) (findI (S.T i) id) P hR ht).mono ?_
    rintro e w1 ⟨L', rfl, t1, t2, t3⟩
    obtain ⟨F1, hb1, hf1, hn1⟩ := (h1.tabled hF hi hts t1 t2 t3).of q
    have hsb : LSB w1 g F1 { S with T := upf S.T i (tpuR i (S.T i) (findI (S.T i) id) P) } := ⟨ls, lt, hb1, hI.row hW ha hf⟩
    refine ⟨_, rfl, hb1.inH, ?_⟩
    have hal : Below w1.heap.size w1 (w1.alloc (.cells #[.int .i64 id] 81)) := alloc_below _ _
    have haw : Aw F1 (some ⟨w1.heap.size, 0, none⟩) 1 := Or.inr (fun ad e c => by
      injection e with e
      rw [← e] at c
      obtain ⟨p', mb', ts', Lf', gv', lab', q1, q2⟩ := hb1
      have := q1.inb _ ((q2 _).1 c)
      exact Nat.lt_irrefl _ this)
    refine (ltouch_any (hsb.keep hal) _ 1 1 [id] (by omega) (row1 w1 id _) haw).mono ?_
    rintro e w2 ⟨rfl, hc⟩
    refine ⟨_, rfl, ?_⟩
    have hl : liveS { S with T := upf S.T i (tpuR i (S.T i) (findI (S.T i) id) P) } id = true := at_live hW ha
    have eS : toS { S with T := upf S.T i (tpuR i (S.T i) (findI (S.T i) id) P) } [id] = layS S id P := by
      show to1 { S with T := upf S.T i (tpuR i (S.T i) (findI (S.T i) id) P) } id = _
      unfold to1
      rw [if_pos hl, hLy]
      have eT : layTs S.T i id P = upf S.T i (tpuR i (S.T i) (findI (S.T i) id) P) := by unfold layTs; rw [← hk, if_pos hik]
      rw [eT]
    rw [eS] at hc
    exact Chg.joins hf1 hn1 (hc.of hal))
  have hcP : (pl P)[0]? = some (.int .i64 (k : Int)) := by rw [hkP]; rfl
  have HPX := Lib.hid (pxs P)
  have hFw : Hid (¬ F w.heap.size) := Lib.hid (fun c => by have := h.inb _ ((hF _).1 c); omega)
  have hg := h.row.lt
  obtain ⟨q, hq⟩ : ∃ q, q = findI (S.T i) id := ⟨_, rfl⟩
  rw [← hq] at HFi HPut
  obtain ⟨X, hX⟩ : ∃ X, X = pl P := ⟨_, rfl⟩
  rw [← hX] at HPX HRem HPut hcP ⊢
  have HCP := Lib.hid hcP
  have KX := Lib.hid (Blk.new w 52 X.toArray)
  have HB0 : Hid (Below w.heap.size w (w.alloc (.cells X.toArray 52))) := Lib.hid (alloc_below _ _)
  clear hX hq hcP hLy h hF hI ho hls hts hR hW hB ha hrt hk hkP
  go_enter Tryz.func231, Tryz.ntmps231
  go_wp2_with fail
  refine (HFi.out _ HB0.out).mono ?_
  rintro e w1 ⟨rfl, b1⟩
  replace KX := Lib.hid (Blk.keep KX.out b1)
  replace HB0 := Lib.hid (bthen HB0.out b1)
  clear b1
  have cx : w1.cell? ⟨w.heap.size, 0, none⟩ = some (.int .i64 (k : Int)) := by rw [KX.out.cell]; simpa using HCP.out
  have zx := KX.out.lt
  have HRg : Hid (w1.rangeAt w.heap.size 0 X) := Lib.hid (blk_whole KX.out)
  go_wp2
  go_quiet (first | (go_at_call 272; refine Calls.quiet_of_same (HSt.out _ (Go.below_drewN HB0.out _))))
  refine fin (fun W => Below w.heap.size w W ∧ Blk W w.heap.size 52 X.toArray) ⟨Go.below_drewN HB0.out _, Blk.drewN KX.out _⟩ ?_
  clear KX HB0 cx zx HRg
  rintro W ⟨hb, kx⟩
  have HB0 := Lib.hid hb
  have KX := Lib.hid kx
  have zx := kx.lt
  have zg : g < W.heap.size := Nat.lt_of_lt_of_le hg hb.size
  clear hb kx
  by_cases hik : i = k
  · subst hik
    replace HPut := Lib.hid (HPut.out rfl)
    clear HRem
    go_wp2_with (refine wpList_load_mid rfl 52 (.tmp 5) rfl w.heap.size 0 rfl X _ (blk_whole KX.out) Tryz.underlying52 rfl HPX.out.2.1 ?_)
    refine (HPut.out _ HB0.out).mono ?_
    rintro e w2 ⟨z, rfl, zg2, hto⟩
    have HTo := Lib.hid hto
    clear hto
    go_wp2_with fail
    refine HTo.out.mono ?_
    rintro e w3 ⟨z2, rfl, hc⟩
    have HC := Lib.hid hc
    clear hc
    go_wp2
    go_end0
    exact ⟨rfl, HC.out⟩
  · replace HRem := Lib.hid (HRem.out hik)
    have hne : decide ((k : Int) = (i : Int)) = false := decide_eq_false (by omega)
    clear HPut
    go_wp2_with fail
    refine (HRem.out _ HB0.out).mono ?_
    rintro e w2 ⟨rfl, hbk, hadd⟩
    have KX2 : Hid (Blk w2 w.heap.size 52 X.toArray) := Lib.hid (KX.out.same (hbk _ zx hFw.out))
    have HAdd := Lib.hid hadd
    have zx2 := KX2.out.lt
    clear hadd hbk
    go_wp2_with (refine wpList_load_mid rfl 52 (.tmp 5) rfl w.heap.size 0 rfl X _ (blk_whole KX2.out) Tryz.underlying52 rfl HPX.out.2.1 ?_)
    refine HAdd.out.mono ?_
    rintro e w3 ⟨rfl, hc⟩
    have HC := Lib.hid hc
    clear hc
    go_wp2
    exact bodyPost_ret (v := .tuple #[]) (results_none rfl _ _ _) rfl ⟨rfl, HC.out⟩

set_option maxHeartbeats 4000000 in
set_option maxRecDepth 100000 in
theorem lremake_any {w : World} {g : Nat} {F : Nat → Prop} {S : St} (h0 : LSB w g F S) (hW : WS S) (hB : Bd S 1000) (id : Int) (Fn : Nat) (cap : Array Value) (E : Int) (V : PT) (hE : Enters Fn)
    (hof : ∀ u, Below w.heap.size w u → Calls Tryz.prog Fn (#[.agg (pl (getP S id)).toArray] ++ cap) u fun e w' => ∃ Z, e = .returned (.tuple #[.agg (List.toArray Z), .int .i64 E]) ∧ Z = pl V ∧ Below u.heap.size u w') (hr : getB S id = true → E = 0 → rightT V = true) :
    Calls Tryz.prog 162 #[.pointer (some ⟨g, 0, none⟩), .int .i64 id, .func (.func Fn) #[] cap] w fun e w' => e = .returned (.int .i64 (if getB S id then E else 4)) ∧ Chg LSB w w' g F (if getB S id = true ∧ E = 0 then layS S id V else S) := by
  have HGet : Hid (Calls Tryz.prog 213 #[.pointer (some ⟨g, 0, none⟩), .int .i64 id] w fun e w' => ∃ Y, e = .returned (.tuple #[.agg (List.toArray Y), .bool (getB S id)]) ∧ Y = pl (getP S id) ∧ Below w.heap.size w w') := Lib.hid (lget_any h0 hW hB id)
  have hg := h0.inH
  have H0 := Lib.hid h0
  cases hgb : getB S id with
  | false =>
    rw [hgb] at HGet
    rw [if_neg (by simp), if_neg (by simp)]
    clear hgb h0 hof hr hE
    go_enter Tryz.func162, Tryz.ntmps162
    go_wp2_with fail
    refine HGet.out.mono ?_
    rintro e w1 ⟨Y, rfl, hY, b1⟩
    have HPX : Hid (PXs Y) := Lib.hid (by rw [hY]; exact pxs _)
    have HB := Lib.hid b1
    clear hY b1
    have KA := Lib.hid (Blk.new w1 52 Z24.toArray)
    have HTA : Hid ((w1.alloc (.cells Z24.toArray 52)).there w1.heap.size 0 Y.toArray.size) := Lib.hid (blk_there KA.out (by rw [List.size_toArray, HPX.out.1]; exact Nat.le_refl 24))
    have HBA : Hid (Below w1.heap.size w1 ((w1.alloc (.cells Z24.toArray 52)).setCells w1.heap.size 0 Y)) := Lib.hid (below_setCells Y (alloc_below _ _) (Nat.le_refl _))
    have LA : Hid (Blk ((w1.alloc (.cells Z24.toArray 52)).setCells w1.heap.size 0 Y) w1.heap.size 52 Y.toArray) := Lib.hid (by
      have := blk_setCells Y (o := 0) KA.out (by rw [HPX.out.1]; exact Nat.le_refl 24)
      rwa [splice_all (by rw [HPX.out.1]; rfl)] at this)
    go_upto_region 4 with (refine wpList_store_mid rfl 52 (.tmp 7) (.tmp 17) rfl w1.heap.size 0 Y.toArray rfl rfl HTA.out HPX.out.2.2.1 HPX.out.2.2.2 ?_)
    refine fin (fun W => Below w.heap.size w W) (bthen HB.out HBA.out) ?_
    rintro W hb
    have HBW := Lib.hid hb
    clear hb
    go_wp2
    go_ret
    exact ⟨rfl, LSB.still H0.out HBW.out⟩
  | true =>
    obtain ⟨i, ha⟩ : ∃ i, atS S id = some i := by unfold getB at hgb; exact Option.isSome_iff_exists.1 hgb
    rw [hgb] at HGet
    have HOf : Hid (∀ u Y, Y = pl (getP S id) → Below w.heap.size w u → Calls Tryz.prog Fn (#[.agg (List.toArray Y)] ++ cap) u fun e w' => ∃ Z, e = .returned (.tuple #[.agg (List.toArray Z), .int .i64 E]) ∧ Z = pl V ∧ Below u.heap.size u w') := Lib.hid (fun u Y hY q => by rw [hY]; exact hof u q)
    have HRp : Hid (E = 0 → ∀ u Z, Z = pl V → Below w.heap.size w u → Calls Tryz.prog 231 #[.pointer (some ⟨g, 0, none⟩), .int .i64 id, .agg (List.toArray Z)] u fun e w' => e = .returned (.tuple #[]) ∧ Chg LSB w w' g F (layS S id V)) := Lib.hid (fun he u Z hZ q => by
      rw [hZ]
      exact (lreplace_any (h0.keep q) hW hB id ha V (hr hgb he)).mono fun _ _ z => ⟨z.1, z.2.of q⟩)
    have hEE := hE
    unfold Enters at hEE
    rw [if_pos rfl]
    obtain ⟨S', hS'⟩ : ∃ S', S' = (if (true = true) ∧ E = 0 then layS S id V else S) := ⟨_, rfl⟩
    rw [← hS']
    have HSy : Hid (E = 0 → S' = layS S id V) := Lib.hid (fun c => by rw [hS', if_pos ⟨rfl, c⟩])
    have HSn : Hid (E ≠ 0 → S' = S) := Lib.hid (fun c => by rw [hS', if_neg (fun d => c d.2)])
    clear hgb h0 hof hr hE ha hW hB hS'
    go_enter Tryz.func162, Tryz.ntmps162
    go_wp2_with fail
    refine HGet.out.mono ?_
    rintro e w1 ⟨Y, rfl, hY, b1⟩
    have HPX : Hid (PXs Y) := Lib.hid (by rw [hY]; exact pxs _)
    have HY := Lib.hid hY
    have HB := Lib.hid b1
    clear hY b1
    have KA := Lib.hid (Blk.new w1 52 Z24.toArray)
    have HTA : Hid ((w1.alloc (.cells Z24.toArray 52)).there w1.heap.size 0 Y.toArray.size) := Lib.hid (blk_there KA.out (by rw [List.size_toArray, HPX.out.1]; exact Nat.le_refl 24))
    have HBA : Hid (Below w1.heap.size w1 ((w1.alloc (.cells Z24.toArray 52)).setCells w1.heap.size 0 Y)) := Lib.hid (below_setCells Y (alloc_below _ _) (Nat.le_refl _))
    have LA : Hid (Blk ((w1.alloc (.cells Z24.toArray 52)).setCells w1.heap.size 0 Y) w1.heap.size 52 Y.toArray) := Lib.hid (by
      have := blk_setCells Y (o := 0) KA.out (by rw [HPX.out.1]; exact Nat.le_refl 24)
      rwa [splice_all (by rw [HPX.out.1]; rfl)] at this)
    go_upto_region 4 with (refine wpList_store_mid rfl 52 (.tmp 7) (.tmp 17) rfl w1.heap.size 0 Y.toArray rfl rfl HTA.out HPX.out.2.2.1 HPX.out.2.2.2 ?_)
    refine fin (fun W => Blk W w1.heap.size 52 Y.toArray ∧ Below w.heap.size w W) ⟨LA.out, bthen HB.out HBA.out⟩ ?_
    obtain ⟨g9, hg9⟩ : ∃ g9, g9 = w1.heap.size := ⟨_, rfl⟩
    rw [← hg9]
    clear KA HTA HBA LA HB hg9 HGet
    rintro W ⟨k9, hb⟩
    have K9 := Lib.hid (blk_whole k9)
    have HB := Lib.hid hb
    have z9 := k9.lt
    have zg : g < W.heap.size := Nat.lt_of_lt_of_le hg hb.size
    clear k9 hb
    go_wp2_with (refine wpList_load_mid rfl 52 (.tmp 7) rfl g9 0 rfl Y _ K9.out Tryz.underlying52 rfl HPX.out.2.1 ?_)
    refine (HOf.out _ Y HY.out HB.out).mono ?_
    rintro e w2 ⟨Z, rfl, hZ, b2⟩
    have HPZ : Hid (PXs Z) := Lib.hid (by rw [hZ]; exact pxs _)
    have HZ := Lib.hid hZ
    replace HB := Lib.hid (bthen HB.out b2)
    clear hZ b2 hEE HOf K9 z9 zg
    have KA := Lib.hid (Blk.new w2 52 Z24.toArray)
    have HTA : Hid ((w2.alloc (.cells Z24.toArray 52)).there w2.heap.size 0 Z.toArray.size) := Lib.hid (blk_there KA.out (by rw [List.size_toArray, HPZ.out.1]; exact Nat.le_refl 24))
    have HBA : Hid (Below w2.heap.size w2 ((w2.alloc (.cells Z24.toArray 52)).setCells w2.heap.size 0 Z)) := Lib.hid (below_setCells Z (alloc_below _ _) (Nat.le_refl _))
    have LA : Hid (Blk ((w2.alloc (.cells Z24.toArray 52)).setCells w2.heap.size 0 Z) w2.heap.size 52 Z.toArray) := Lib.hid (by
      have := blk_setCells Z (o := 0) KA.out (by rw [HPZ.out.1]; exact Nat.le_refl 24)
      rwa [splice_all (by rw [HPZ.out.1]; rfl)] at this)
    go_upto_region 7 with (refine wpList_store_mid rfl 52 (.tmp 9) (.tmp 25) rfl w2.heap.size 0 Z.toArray rfl rfl HTA.out HPZ.out.2.2.1 HPZ.out.2.2.2 ?_)
    refine fin (fun W => Blk W w2.heap.size 52 Z.toArray ∧ Below w.heap.size w W) ⟨LA.out, bthen HB.out HBA.out⟩ ?_
    obtain ⟨g8, hg8⟩ : ∃ g8, g8 = w2.heap.size := ⟨_, rfl⟩
    rw [← hg8]
    clear KA HTA HBA LA HB hg8
    rintro W2 ⟨k8, hb⟩
    have K8 := Lib.hid (blk_whole k8)
    have HB := Lib.hid hb
    have z8 := k8.lt
    clear k8 hb
    by_cases he : E = 0
    · have eS := Lib.hid (HSy.out he)
      replace HRp := Lib.hid (HRp.out he)
      subst he
      go_wp2_with (refine wpList_load_mid rfl 52 (.tmp 9) rfl g8 0 rfl Z _ K8.out Tryz.underlying52 rfl HPZ.out.2.1 ?_)
      refine (HRp.out _ Z HZ.out HB.out).mono ?_
      rintro e w3 ⟨rfl, hc⟩
      have HC := Lib.hid hc
      clear hc
      go_wp2
      go_ret
      exact ⟨rfl, by rw [eS.out]; exact HC.out⟩
    · have eS := Lib.hid (HSn.out he)
      have hne : decide (E = 0) = false := decide_eq_false he
      go_wp2
      go_ret
      exact ⟨rfl, by rw [eS.out]; exact LSB.still H0.out HB.out⟩

set_option maxHeartbeats 2000000 in
set_option maxRecDepth 100000 in
theorem put1_any (P Q : PT) (g7 g8 : Nat) (a : Option Addr) (n cap : Nat) (ks : List Int) (w : World) (k7 : Blk w g7 52 (pl Q).toArray) (k8 : w.cell? ⟨g8, 0, none⟩ = some (.slice a n cap)) (row : Row w a n ks) :
    Calls Tryz.prog 163 (#[.agg (pl P).toArray] ++ #[.pointer (some ⟨g7, 0, none⟩), .pointer (some ⟨g8, 0, none⟩)]) w fun e w' => ∃ Z, e = .returned (.tuple #[.agg (List.toArray Z), .int .i64 (withE P Q ks)]) ∧ Z = pl (withV P Q ks) ∧ Below w.heap.size w w' := by
  have HWi : Hid (∀ u, Below w.heap.size w u → Calls Tryz.prog 164 #[.agg (pl P).toArray, .agg (pl Q).toArray, .slice a n cap] u fun e w' => e = .returned (.tuple #[.agg (pl (withV P Q ks)).toArray, .int .i64 (withE P Q ks)]) ∧ Below u.heap.size u w') := Lib.hid (fun u q => pwith_any P Q a n cap ks u (row_keep row q))
  have HPP := Lib.hid (pxs P)
  have HPQ := Lib.hid (pxs Q)
  have HPZ := Lib.hid (pxs (withV P Q ks))
  obtain ⟨E, hE⟩ : ∃ E, E = withE P Q ks := ⟨_, rfl⟩
  obtain ⟨Xp, hXp⟩ : ∃ Xp, Xp = pl P := ⟨_, rfl⟩
  obtain ⟨Xq, hXq⟩ : ∃ Xq, Xq = pl Q := ⟨_, rfl⟩
  obtain ⟨Z, hZ⟩ : ∃ Z, Z = pl (withV P Q ks) := ⟨_, rfl⟩
  rw [← hE, ← hXp, ← hXq, ← hZ] at HWi
  rw [← hXp] at HPP ⊢
  rw [← hXq] at HPQ k7
  rw [← hZ] at HPZ ⊢
  rw [← hE]
  have z7 := k7.lt
  have z8 : g8 < w.heap.size := World.block_lt_of_cell? _ _ k8
  have K7 := Lib.hid k7
  have KP := Lib.hid (Blk.new w 52 Xp.toArray)
  have HB0 : Hid (Below w.heap.size w (w.alloc (.cells Xp.toArray 52))) := Lib.hid (alloc_below _ _)
  have KR : Hid (Blk ((w.alloc (.cells Xp.toArray 52)).alloc (.cells Z24.toArray 52)) (w.heap.size + 1) 52 Z24.toArray) := Lib.hid (by
    have := Blk.new (w.alloc (.cells Xp.toArray 52)) 52 Z24.toArray
    rwa [show (w.alloc (.cells Xp.toArray 52)).heap.size = w.heap.size + 1 by simp] at this)
  have HB1 : Hid (Below (w.alloc (.cells Xp.toArray 52)).heap.size (w.alloc (.cells Xp.toArray 52)) ((w.alloc (.cells Xp.toArray 52)).alloc (.cells Z24.toArray 52))) := Lib.hid (alloc_below _ _)
  have KP2 := Lib.hid (Blk.keep KP.out HB1.out)
  have HB2 := Lib.hid (bthen HB0.out HB1.out)
  have K72 := Lib.hid (Blk.keep K7.out HB2.out)
  have c8 := cell_keep k8 HB2.out
  clear hE hXp hXq hZ row k7 k8 KP HB0 HB1 K7
  go_enter Tryz.func163, Tryz.ntmps163
  go_upto_region 1 with fail
  refine fin (fun W => Blk W w.heap.size 52 Xp.toArray ∧ Blk W (w.heap.size + 1) 52 Z24.toArray ∧ Blk W g7 52 Xq.toArray ∧ W.cell? ⟨g8, 0, none⟩ = some (.slice a n cap) ∧ Below w.heap.size w W) ⟨KP2.out, KR.out, K72.out, c8, HB2.out⟩ ?_
  clear KP2 KR K72 c8 HB2
  rintro W ⟨kp, kr, k7, c8, hb⟩
  have KP := Lib.hid (blk_whole kp)
  have KR := Lib.hid kr
  have K7 := Lib.hid (blk_whole k7)
  have HB := Lib.hid hb
  have z1 := kp.lt
  have z2 := k7.lt
  have z3 : g8 < W.heap.size := World.block_lt_of_cell? _ _ c8
  clear kp kr k7 hb
  go_wp2_with (first | refine wpList_load_mid rfl 52 (.tmp 3) rfl w.heap.size 0 rfl Xp _ KP.out Tryz.underlying52 rfl HPP.out.2.1 ?_ | refine wpList_load_mid rfl 52 (.tmp 1) rfl g7 0 rfl Xq _ K7.out Tryz.underlying52 rfl HPQ.out.2.1 ?_)
  refine (HWi.out _ HB.out).mono ?_
  rintro e w2 ⟨rfl, b2⟩
  replace KR := Lib.hid (Blk.keep KR.out b2)
  replace HB := Lib.hid (bthen HB.out b2)
  have zr := KR.out.lt
  have HT4 : Hid (w2.there (w.heap.size + 1) 0 Z.toArray.size) := Lib.hid (blk_there KR.out (by rw [List.size_toArray, HPZ.out.1]; exact Nat.le_refl 24))
  have L4 : Hid (Blk (w2.setCells (w.heap.size + 1) 0 Z) (w.heap.size + 1) 52 Z.toArray) := Lib.hid (blk_over KR.out (by rw [HPZ.out.1]; rfl))
  clear b2 c8
  go_wp2_with (first | refine wpList_store_mid rfl 52 (.tmp 4) (.tmp 10) rfl (w.heap.size + 1) 0 Z.toArray rfl rfl HT4.out HPZ.out.2.2.1 HPZ.out.2.2.2 ?_)
  refine fin (fun W => Blk W (w.heap.size + 1) 52 Z.toArray ∧ Below w.heap.size w W) ⟨L4.out, below_setCells _ HB.out (by omega)⟩ ?_
  rintro W2 ⟨kr, hb⟩
  have hl := run_loadVar_mid W2 (w.heap.size + 1) 0 52 Z _ (blk_whole kr) Tryz.underlying52 rfl HPZ.out.2.1
  try simp only [Go.Act.put, List.setIfInBounds_toArray, List.set_cons_zero, List.set_cons_succ]
  exact bodyPost_ret (v := .tuple #[.agg Z.toArray, .int .i64 E]) (results_cell2 Tryz.results163 rfl rfl hl) rfl ⟨Z, rfl, rfl, hb⟩

set_option maxHeartbeats 2000000 in
set_option maxRecDepth 100000 in
theorem cut1_any (P : PT) (g8 : Nat) (a : Option Addr) (n cap : Nat) (ks : List Int) (w : World) (k8 : w.cell? ⟨g8, 0, none⟩ = some (.slice a n cap)) (row : Row w a n ks) :
    Calls Tryz.prog 165 (#[.agg (pl P).toArray] ++ #[.pointer (some ⟨g8, 0, none⟩)]) w fun e w' => ∃ Z, e = .returned (.tuple #[.agg (List.toArray Z), .int .i64 (woutE P ks)]) ∧ Z = pl (woutV P ks) ∧ Below w.heap.size w w' := by
  have HWi : Hid (∀ u, Below w.heap.size w u → Calls Tryz.prog 166 #[.agg (pl P).toArray, .slice a n cap] u fun e w' => e = .returned (.tuple #[.agg (pl (woutV P ks)).toArray, .int .i64 (woutE P ks)]) ∧ Below u.heap.size u w') := Lib.hid (fun u q => pwoutT P a n cap ks u (row_keep row q))
  have HPP := Lib.hid (pxs P)
  have HPZ := Lib.hid (pxs (woutV P ks))
  obtain ⟨E, hE⟩ : ∃ E, E = woutE P ks := ⟨_, rfl⟩
  obtain ⟨Xp, hXp⟩ : ∃ Xp, Xp = pl P := ⟨_, rfl⟩
  obtain ⟨Z, hZ⟩ : ∃ Z, Z = pl (woutV P ks) := ⟨_, rfl⟩
  rw [← hE, ← hXp, ← hZ] at HWi
  rw [← hXp] at HPP ⊢
  rw [← hZ] at HPZ ⊢
  rw [← hE]
  have z8 : g8 < w.heap.size := World.block_lt_of_cell? _ _ k8
  have KP := Lib.hid (Blk.new w 52 Xp.toArray)
  have HB0 : Hid (Below w.heap.size w (w.alloc (.cells Xp.toArray 52))) := Lib.hid (alloc_below _ _)
  have KR : Hid (Blk ((w.alloc (.cells Xp.toArray 52)).alloc (.cells Z24.toArray 52)) (w.heap.size + 1) 52 Z24.toArray) := Lib.hid (by
    have := Blk.new (w.alloc (.cells Xp.toArray 52)) 52 Z24.toArray
    rwa [show (w.alloc (.cells Xp.toArray 52)).heap.size = w.heap.size + 1 by simp] at this)
  have HB1 : Hid (Below (w.alloc (.cells Xp.toArray 52)).heap.size (w.alloc (.cells Xp.toArray 52)) ((w.alloc (.cells Xp.toArray 52)).alloc (.cells Z24.toArray 52))) := Lib.hid (alloc_below _ _)
  have KP2 := Lib.hid (Blk.keep KP.out HB1.out)
  have HB2 := Lib.hid (bthen HB0.out HB1.out)
  have c8 := cell_keep k8 HB2.out
  clear hE hXp hZ row k8 KP HB0 HB1
  go_enter Tryz.func165, Tryz.ntmps165
  go_upto_region 1 with fail
  refine fin (fun W => Blk W w.heap.size 52 Xp.toArray ∧ Blk W (w.heap.size + 1) 52 Z24.toArray ∧ W.cell? ⟨g8, 0, none⟩ = some (.slice a n cap) ∧ Below w.heap.size w W) ⟨KP2.out, KR.out, c8, HB2.out⟩ ?_
  clear KP2 KR c8 HB2
  rintro W ⟨kp, kr, c8, hb⟩
  have KP := Lib.hid (blk_whole kp)
  have KR := Lib.hid kr
  have HB := Lib.hid hb
  have z1 := kp.lt
  have z3 : g8 < W.heap.size := World.block_lt_of_cell? _ _ c8
  clear kp kr hb
  go_wp2_with (first | refine wpList_load_mid rfl 52 (.tmp 2) rfl w.heap.size 0 rfl Xp _ KP.out Tryz.underlying52 rfl HPP.out.2.1 ?_)
  refine (HWi.out _ HB.out).mono ?_
  rintro e w2 ⟨rfl, b2⟩
  replace KR := Lib.hid (Blk.keep KR.out b2)
  replace HB := Lib.hid (bthen HB.out b2)
  have zr := KR.out.lt
  have HT4 : Hid (w2.there (w.heap.size + 1) 0 Z.toArray.size) := Lib.hid (blk_there KR.out (by rw [List.size_toArray, HPZ.out.1]; exact Nat.le_refl 24))
  have L4 : Hid (Blk (w2.setCells (w.heap.size + 1) 0 Z) (w.heap.size + 1) 52 Z.toArray) := Lib.hid (blk_over KR.out (by rw [HPZ.out.1]; rfl))
  clear b2 c8
  go_wp2_with (first | refine wpList_store_mid rfl 52 (.tmp 3) (.tmp 8) rfl (w.heap.size + 1) 0 Z.toArray rfl rfl HT4.out HPZ.out.2.2.1 HPZ.out.2.2.2 ?_)
  refine fin (fun W => Blk W (w.heap.size + 1) 52 Z.toArray ∧ Below w.heap.size w W) ⟨L4.out, below_setCells _ HB.out (by omega)⟩ ?_
  rintro W2 ⟨kr, hb⟩
  have hl := run_loadVar_mid W2 (w.heap.size + 1) 0 52 Z _ (blk_whole kr) Tryz.underlying52 rfl HPZ.out.2.1
  try simp only [Go.Act.put, List.setIfInBounds_toArray, List.set_cons_zero, List.set_cons_succ]
  exact bodyPost_ret (v := .tuple #[.agg Z.toArray, .int .i64 E]) (results_cell2 Tryz.results165 rfl rfl hl) rfl ⟨Z, rfl, rfl, hb⟩

theorem enters_put1 : Enters 163 := fun _ _ => by kernel_rfl
theorem enters_cut1 : Enters 165 := fun _ _ => by kernel_rfl
set_option maxHeartbeats 2000000 in
set_option maxRecDepth 100000 in
theorem lput_any {w : World} {g : Nat} {F : Nat → Prop} {S : St} (h0 : LSB w g F S) (hW : WS S) (hB : Bd S 1000) (id : Int) (Q : PT) (a : Option Addr) (n cap : Nat) (ks : List Int) (row : Row w a n ks) :
    Calls Tryz.prog 93 #[.pointer (some ⟨g, 0, none⟩), .int .i64 id, .agg (pl Q).toArray, .slice a n cap] w fun e w' => e = .returned (.int .i64 (puE S id Q ks)) ∧ Chg LSB w w' g F (puS S id Q ks) := by
  have hW1 : Below w.heap.size w ((w.alloc (.cells (pl Q).toArray 52)).alloc (.cells #[.slice a n cap] 53)) := bthen (alloc_below _ _) (alloc_below _ _)
  have HRm : Hid (Calls Tryz.prog 162 #[.pointer (some ⟨g, 0, none⟩), .int .i64 id, .func (.func 163) #[] #[.pointer (some ⟨w.heap.size, 0, none⟩), .pointer (some ⟨w.heap.size + 1, 0, none⟩)]] ((w.alloc (.cells (pl Q).toArray 52)).alloc (.cells #[.slice a n cap] 53)) fun e w' => e = .returned (.int .i64 (puE S id Q ks)) ∧ Chg LSB w w' g F (puS S id Q ks)) := Lib.hid (by
    have k7 : Blk ((w.alloc (.cells (pl Q).toArray 52)).alloc (.cells #[.slice a n cap] 53)) w.heap.size 52 (pl Q).toArray := Blk.keep (Blk.new w _ _) (alloc_below _ _)
    have k8 : ((w.alloc (.cells (pl Q).toArray 52)).alloc (.cells #[.slice a n cap] 53)).cell? ⟨w.heap.size + 1, 0, none⟩ = some (.slice a n cap) := by
      have := (Blk.new (w.alloc (.cells (pl Q).toArray 52)) 53 #[.slice a n cap]).cell 0
      rwa [show (w.alloc (.cells (pl Q).toArray 52)).heap.size = w.heap.size + 1 by simp] at this
    refine (lremake_any (h0.keep hW1) hW hB id 163 _ (withE (getP S id) Q ks) (withV (getP S id) Q ks) enters_put1 (fun u q => put1_any (getP S id) Q w.heap.size (w.heap.size + 1) a n cap ks u (k7.keep q) (cell_keep k8 q) (row_keep (row_keep row hW1) q)) (fun hb he => ?_)).mono ?_
    · obtain ⟨i, _, hrt⟩ := pu_at (S := S) (id := id) (Q := Q) (ks := ks) (by unfold puE; rw [hb]; exact he)
      exact hrt
    · rintro e w' ⟨rfl, hc⟩
      have e2 : (if getB S id = true ∧ withE (getP S id) Q ks = 0 then layS S id (withV (getP S id) Q ks) else S) = puS S id Q ks := by
        unfold puS puE
        cases getB S id <;> simp
      rw [e2] at hc
      exact ⟨by unfold puE; rfl, hc.of hW1⟩)
  have HPX := Lib.hid (pxs Q)
  obtain ⟨X, hX⟩ : ∃ X, X = pl Q := ⟨_, rfl⟩
  rw [← hX] at HRm HPX ⊢
  clear hX hW1 h0 hW hB row
  go_enter Tryz.func93, Tryz.ntmps93
  go_wp2_with fail
  refine HRm.out.mono ?_
  rintro e w1 ⟨rfl, hc⟩
  have HC := Lib.hid hc
  clear hc
  go_wp2
  go_ret
  exact ⟨rfl, HC.out⟩
set_option maxHeartbeats 2000000 in
set_option maxRecDepth 100000 in
theorem lcut_any {w : World} {g : Nat} {F : Nat → Prop} {S : St} (h0 : LSB w g F S) (hW : WS S) (hB : Bd S 1000) (id : Int) (a : Option Addr) (n cap : Nat) (ks : List Int) (row : Row w a n ks) :
    Calls Tryz.prog 94 #[.pointer (some ⟨g, 0, none⟩), .int .i64 id, .slice a n cap] w fun e w' => e = .returned (.int .i64 (cuE S id ks)) ∧ Chg LSB w w' g F (cuS S id ks) := by
  have hW1 : Below w.heap.size w (w.alloc (.cells #[.slice a n cap] 53)) := alloc_below _ _
  have HRm : Hid (Calls Tryz.prog 162 #[.pointer (some ⟨g, 0, none⟩), .int .i64 id, .func (.func 165) #[] #[.pointer (some ⟨w.heap.size, 0, none⟩)]] (w.alloc (.cells #[.slice a n cap] 53)) fun e w' => e = .returned (.int .i64 (cuE S id ks)) ∧ Chg LSB w w' g F (cuS S id ks)) := Lib.hid (by
    have k8 : (w.alloc (.cells #[.slice a n cap] 53)).cell? ⟨w.heap.size, 0, none⟩ = some (.slice a n cap) := (Blk.new w 53 #[.slice a n cap]).cell 0
    refine (lremake_any (h0.keep hW1) hW hB id 165 _ (woutE (getP S id) ks) (woutV (getP S id) ks) enters_cut1 (fun u q => cut1_any (getP S id) w.heap.size a n cap ks u (cell_keep k8 q) (row_keep (row_keep row hW1) q)) (fun hb he => ?_)).mono ?_
    · obtain ⟨i, _, hrt⟩ := cu_at (S := S) (id := id) (ks := ks) (by unfold cuE; rw [hb]; exact he)
      exact hrt
    · rintro e w' ⟨rfl, hc⟩
      have e2 : (if getB S id = true ∧ woutE (getP S id) ks = 0 then layS S id (woutV (getP S id) ks) else S) = cuS S id ks := by
        unfold cuS cuE
        cases getB S id <;> simp
      rw [e2] at hc
      exact ⟨by unfold cuE; rfl, hc.of hW1⟩)
  clear hW1 h0 hW hB row
  go_enter Tryz.func94, Tryz.ntmps94
  go_wp2_with fail
  refine HRm.out.mono ?_
  rintro e w1 ⟨rfl, hc⟩
  have HC := Lib.hid hc
  clear hc
  go_wp2
  go_ret
  exact ⟨rfl, HC.out⟩

theorem bs_going (x y : Int) (W : World) : (Instr.buildSlice 136 1 #[(0, .agg #[.int .i64 x, .int .i64 y])]).run Tryz.prog W = .ok (.slice (some ⟨W.heap.size, 0, none⟩) 1 1) (W.alloc (.cells ([.int .i64 x, .int .i64 y] : List Value).toArray 196)) := by kernel_rfl
theorem ginfo : (Tryz.prog.info? 196).map (fun i => (i.zero, i.size, i.bytes)) = some (some (.agg #[.int .i64 0, .int .i64 0]), 2, 16) := by kernel_rfl
theorem gone9 (x y : Int) : ∀ u ∈ ([.int .i64 x, .int .i64 y] : List Value), u.oneCell' = true := fun u hu => by
  simp only [List.mem_cons, List.not_mem_nil, or_false] at hu
  rcases hu with rfl | rfl <;> rfl
theorem LM.gone_ {W Wb w1 : World} {g p mb gu n cap : Nat} {S : St} {ls lt : Nat → Int} {ts : Nat → Option Nat} {Lf : Nat → Nat → Prop} {gv : Value} {lab : Nat → Nat} {F : Nat → Prop} {l : List (Int × Int)} (h : LM W g S p mb ls lt ts Lf gv lab) (hF : ∀ b, F b ↔ lfoot g p mb Lf gv b) (hb : Below W.heap.size W Wb) (hg : Wb.grownBy w1 gv.ownBlock)
    (hc : ColG w1 (.slice (some ⟨gu, 0, none⟩) n cap) l) (hu : gv.ownBlock = some gu ∨ Wb.heap.size ≤ gu) :
    CM W (w1.setCell ⟨g, 515, none⟩ (.slice (some ⟨gu, 0, none⟩) n cap)) g F { S with go := l } ls lt ∧ w1.rowIs g 138 516 (lF p mb S.now ls lt gv) := by
  have hgl := h.row.lt
  have hvg : gv.ownBlock ≠ some g := fun e => by have h1 := h.lv g e; rw [h.lg] at h1; omega
  have hst : ∀ b, b ≠ g → (w1.setCell ⟨g, 515, none⟩ (.slice (some ⟨gu, 0, none⟩) n cap)).heap[b]? = w1.heap[b]? := fun b c => Go.Deep.blk_setCell_other _ _ _ _ c
  have hr1 : w1.rowIs g 138 516 (lF p mb S.now ls lt gv) := (h.keep hb).row.of_block (hg.block g (h.keep hb).row.lt (fun e => hvg e.symm))
  have hgug : gu ≠ g := fun e => by
    rcases hu with c | c
    · exact hvg (e ▸ c)
    · have := hb.size; omega
  refine ⟨LM.went (w' := w1.setCell ⟨g, 515, none⟩ (.slice (some ⟨gu, 0, none⟩) n cap)) (gv' := .slice (some ⟨gu, 0, none⟩) n cap) h hF ⟨hg.os.trans hb.os, hg.tape.trans hb.tape, hg.output.trans hb.output, Nat.le_trans hb.size (by simpa [World.setCell] using hg.size), fun b hl hn => ?_⟩ ((hr1.set 515 _).congr (fun j hj => lF_upGo _ j hj)) (ColX.same hc (fun b e => hst b (fun c => ?_))) (fun b e => ?_), hr1⟩
  · rw [hst b (fun c => hn (Or.inl c)), hg.block b (Nat.lt_of_lt_of_le hl hb.size) (fun e => hn (Or.inr e.symm)), hb.block b hl]
  · have : gu = b := by simpa [Value.ownBlock] using e
    omega
  · have e' : gu = b := by simpa [Value.ownBlock] using e
    subst e'
    rcases hu with c | c
    · exact Or.inl c
    · exact Or.inr (Nat.le_trans hb.size c)
set_option maxHeartbeats 8000000 in
set_option maxRecDepth 100000 in
theorem ldespawn_any {w : World} {g : Nat} {F : Nat → Prop} {S : St} (h0 : LSB w g F S) (hW : WS S) (hB : Bd S 1000) (id : Int) :
    Calls Tryz.prog 64 #[.pointer (some ⟨g, 0, none⟩), .int .i64 id] w fun e w' => e = .returned (.int .i64 (deE S id)) ∧ Chg LSB w w' g F (deS S id) := by
  have H0 := Lib.hid h0
  have hg := h0.inH
  obtain ⟨p, c0, hlv, _⟩ := h0.live
  have HLv := Lib.hid (hlv id)
  clear hlv
  cases ha : atS S id with
  | none =>
    have e4 : Hid (deE S id = 4) := Lib.hid (by unfold deE; rw [show getB S id = false by unfold getB; rw [ha]; rfl]; rfl)
    have e5 : Hid (deS S id = S) := Lib.hid (by unfold deS; rw [ha])
    rw [at_dead hW ha] at HLv
    clear ha h0 hW hB
    go_enter Tryz.func64, Tryz.ntmps64
    go_wp2_with fail
    refine HLv.out.mono ?_
    rintro e w1 ⟨rfl, b1⟩
    have B1 := Lib.hid b1
    clear b1
    go_wp2
    go_ret
    exact ⟨by rw [e4.out]; rfl, by rw [e5.out]; exact LSB.still H0.out B1.out⟩
  | some i =>
    have e4 : Hid (deE S id = 0) := Lib.hid (by unfold deE; rw [show getB S id = true by unfold getB; rw [ha]; rfl]; rfl)
    have hd5 : deS S id = { S with T := upf S.T i (tcuR (S.T i) (findI (S.T i) id)), G := drG S.G S.L id, L := drL S.G S.L id, go := S.go ++ [(id, S.now)] } := by unfold deS; rw [ha]
    rw [at_live hW ha] at HLv
    obtain ⟨ls, lt, ⟨p', mb, ts, Lf, gv, lab, h, hF⟩, hI⟩ := h0
    obtain ⟨ho, hi, hls, a, hts⟩ := h.there hI hW ha
    have hR := hB.2.2.1 i hi
    obtain ⟨hW', hin⟩ := ws_despawn hW ha
    have HI' : Hid (LI (deS S id) ls lt) := Lib.hid (hI.cut hW hW' hin (by rw [hd5]) (by rw [hd5]) (by rw [hd5]))
    have HOk := Lib.hid hW.ok
    have HRm : Hid (∀ u, Below w.heap.size w u → Calls Tryz.prog 116 #[.pointer (some ⟨g, 0, none⟩), .int .i64 id] u fun e w1 => e = .returned (.tuple #[]) ∧ ∃ p, w1.cell? ⟨g, 0, none⟩ = some (.pointer (some ⟨p, 0, none⟩)) ∧ g < w1.heap.size ∧ Calls Tryz.prog 117 #[.pointer (some ⟨p, 0, none⟩), .int .i64 id] w1 fun e w2 => ∃ z, e = .returned (.bool z) ∧ CM w w2 g F { S with T := upf S.T i (tcuR (S.T i) (findI (S.T i) id)), G := drG S.G S.L id, L := drL S.G S.L id } ls lt) := Lib.hid (fun u q => by
      refine (lremove_any (F := F) (h.keep q) hF id ho hi hls hts hR).mono ?_
      rintro e w1 ⟨rfl, F1, ⟨p1, mb1, ts1, Lf1, gv1, lab1, h1, hF1⟩, hf1, hn1⟩
      refine ⟨rfl, p1, h1.c0, h1.row.lt, ?_⟩
      refine (qdrop p1 S.room S.G S.L id w1 HOk.out.gen h1.pool).mono ?_
      rintro e w2 ⟨rfl, hr2, hg2⟩
      exact ⟨_, rfl, (CM.join hf1 hn1 (h1.pooled hF1 hg2 hr2)).of q⟩)
    have HD5 := Lib.hid hd5
    have hgl := hB.2.1
    clear ha H0 h hF hI hW' hin hd5 hW hB ho hls hts hR
    go_enter Tryz.func64, Tryz.ntmps64
    go_wp2_with fail
    refine HLv.out.mono ?_
    rintro e w1 ⟨rfl, b1⟩
    have B1 := Lib.hid b1
    clear b1
    go_wp2_with fail
    refine (HRm.out _ B1.out).mono ?_
    rintro e w2 ⟨rfl, p2, cp, zg2, hdr⟩
    have HDr := Lib.hid hdr
    clear hdr
    go_wp2_with fail
    refine HDr.out.mono ?_
    rintro e w3 ⟨z3, rfl, hcm⟩
    obtain ⟨F3, ⟨p3, mb3, ts3, Lf3, gv3, lab3, h3, hF3⟩, hf3, hn3⟩ := hcm
    obtain ⟨nw, hnw⟩ : ∃ nw, nw = S.now := ⟨_, rfl⟩
    have HNw := Lib.hid hnw
    have c2 : w3.cell? ⟨g, 2, none⟩ = some (.int .i64 nw) := by rw [hnw]; exact h3.c2
    have c515 := h3.c515
    have hg3 := h3.row.lt
    have hD : LM w3.drew g { S with T := upf S.T i (tcuR (S.T i) (findI (S.T i) id)), G := drG S.G S.L id, L := drL S.G S.L id } p3 mb3 ls lt ts3 Lf3 gv3 lab3 := h3.keep (bdrewn (Below.refl _ _))
    have HD := Lib.hid hD
    have HF3 := Lib.hid (And.intro hF3 (And.intro hf3 hn3))
    have CW := Lib.hid (And.intro c2 c515)
    have CB : Hid ((w3.drew.alloc (.cells ([.int .i64 id, .int .i64 nw] : List Value).toArray 196)).cell? ⟨g, 515, none⟩ = some gv3 ∧ (w3.drew.alloc (.cells ([.int .i64 id, .int .i64 nw] : List Value).toArray 196)).cell? ⟨g, 2, none⟩ = some (.int .i64 nw)) := Lib.hid ⟨cell_keep (w := w3.drew) c515 (alloc_below _ _), cell_keep (w := w3.drew) c2 (alloc_below _ _)⟩
    clear h3 hF3 hf3 hn3 hnw c2 c515 hD
    go_upto_region 7 with fail
    refine wp_region_held_drew (S := fun w' => w'.cell? ⟨g, 2, none⟩ = some (.int .i64 nw)) (by kernel_rfl) (CW.out.1) (fun hHeld => ?_)
    refine tk 0 hHeld ?_
    refine tk 1 hHeld ?_
    refine tk 2 hHeld ?_
    refine tk 3 hHeld ?_
    refine tk 5 hHeld ?_
    refine tk 6 hHeld ?_
    refine tk 7 hHeld ?_
    refine tk 8 hHeld ?_
    refine tk 9 hHeld ?_
    refine tk 10 hHeld ?_
    refine wpAnyH_pair (i := 4) (j := 11) (v := gv3) (u := .slice (some ⟨w3.heap.size, 0, none⟩) 1 1) (w' := w3.drew.alloc (.cells ([.int .i64 id, .int .i64 nw] : List Value).toArray 196)) rfl rfl (by kernel_rfl) (by kernel_rfl) (by kernel_rfl) (by rfl) (by rfl) (by rfl) (by rfl) (exec_cell rfl rfl Tryz.underlying136 CW.out.2) (exec_bs rfl rfl (bs_going id nw _)) (exec_bs rfl rfl (bs_going id nw _)) (exec_cell rfl rfl Tryz.underlying136 CB.out.1) rfl hHeld CB.out.2 ?_
    simp only [Act.put, List.getElem_toArray, List.getElem_cons_zero, List.getElem_cons_succ, List.setIfInBounds_toArray, List.set_cons_zero, List.set_cons_succ]
    clear hHeld CW CB
    have hmm : (S.go.map mkG).length ≤ 2000 := by rw [List.length_map]; omega
    refine rd 12 (fun K hK => ?_)
    rw [if_pos (by rfl)]
    refine wp_appC (.tmp 27) (.tmp 34) 136 196 2 16 (.agg #[.int .i64 0, .int .i64 0]) cG rfl Tryz.underlying136 ginfo rfl (by decide) (by decide) (fun _ => rfl) gv3 (S.go.map mkG) rfl ((HD.out.keep (alloc_below _ _)).gos) hmm (mkG (id, nw)) [.int .i64 id, .int .i64 nw] rfl (gone9 id nw) w3.heap.size (Blk.new _ _ _) rfl ?_
    intro gu gcap w4 hc hgr hat
    have hc' : ColG w4 (.slice (some ⟨gu, 0, none⟩) ((S.go.map mkG).length + 1) gcap) (S.go ++ [(id, nw)]) := by
      show ColX w4 _ 2 cG _ ((S.go ++ [(id, nw)]).map mkG)
      rw [List.map_append]; exact hc
    generalize (S.go.map mkG).length + 1 = nn at hc' ⊢
    obtain ⟨hcm4, hrow4⟩ := HD.out.gone_ HF3.out.1 (alloc_below _ _) hgr hc' hat
    have HCM : Hid (CM w (w4.setCell ⟨g, 515, none⟩ (.slice (some ⟨gu, 0, none⟩) nn gcap)) g F (deS S id) ls lt) := Lib.hid (by
      have h9 := hcm4
      rw [HNw.out] at h9
      rw [HD5.out]
      exact CM.join (Fr.behind HF3.out.2.1 (bdrewn (Below.refl _ _))) HF3.out.2.2 h9)
    have c4 : w4.cell? ⟨g, 2, none⟩ = some (.int .i64 nw) := by rw [hrow4.cell (by omega), HNw.out]; rfl
    have d4 : w4.cell? ⟨g, 515, none⟩ = some gv3 := by rw [hrow4.cell (by omega)]; rfl
    have f4 : w4.frozen? ⟨g, 515, none⟩ = false := hrow4.frozen _
    have hg4 : g < w4.heap.size := hrow4.lt
    have c5 : (w4.setCell ⟨g, 515, none⟩ (.slice (some ⟨gu, 0, none⟩) nn gcap)).cell? ⟨g, 2, none⟩ = some (.int .i64 nw) := by rw [(hrow4.set 515 _).cell (by omega), if_neg (by omega), HNw.out]; rfl
    clear hc hc' hgr hat hrow4 hcm4
    refine hK.out _ _ c4 (fun hHeld => ?_)
    clear hK K
    simp only [Act.put, List.getElem_toArray, List.getElem_cons_zero, List.getElem_cons_succ, List.setIfInBounds_toArray, List.set_cons_zero, List.set_cons_succ]
    refine tk 13 hHeld ?_
    refine tk 14 hHeld ?_
    refine rd 15 (fun K hK => ?_)
    go_simp
    refine hK.out _ _ c5 (fun hHeld => ?_)
    clear hK K
    refine wpAnyH_done (by kernel_rfl) ?_ _
    clear hHeld
    refine fin (fun W => Chg LSB w W g F (deS S id)) (LSB.of_cm HCM.out HI'.out) ?_
    clear HCM c4 c5 d4 f4 hg4
    rintro W hch
    have HCh := Lib.hid hch
    clear hch
    go_wp2
    go_ret
    exact ⟨by rw [e4.out]; rfl, HCh.out⟩

set_option maxHeartbeats 4000000 in
set_option maxRecDepth 100000 in
theorem lspawn_any {w : World} {g : Nat} {F : Nat → Prop} {S : St} (h0 : LSB w g F S) (hW : WS S) (hB : Bd S 1000) (P : PT) :
    Calls Tryz.prog 62 #[.pointer (some ⟨g, 0, none⟩), .agg (pl P).toArray] w fun e w' => e = .returned (.tuple #[.int .i64 (spV S P), .int .i64 (spE S P)]) ∧ Chg LSB w w' g F (spS S P) := by
  have H0 := Lib.hid h0
  have hg := h0.inH
  have HPX := Lib.hid (pxs P)
  obtain ⟨b, hb⟩ : ∃ b, b = rightT P := ⟨_, rfl⟩
  have HRi : Hid (∀ u, Calls Tryz.prog 110 #[.agg (pl P).toArray] u fun e w' => e = .returned (.bool b) ∧ Below u.heap.size u w') := Lib.hid (fun u => prightT hb.symm u)
  have HTk : Hid (b = true → ∀ u, Below w.heap.size w u → ∃ p, u.cell? ⟨g, 0, none⟩ = some (.pointer (some ⟨p, 0, none⟩)) ∧ Calls Tryz.prog 111 #[.pointer (some ⟨p, 0, none⟩)] u fun e w1 => e = .returned (.tuple #[.int .i64 (tkV S.G S.L S.room), .int .i64 (tkE S.G S.L S.room)]) ∧ (tkE S.G S.L S.room ≠ 0 → Chg LSB w w1 g F (spS S P)) ∧ (∀ b, b < u.heap.size → ¬ F b → w1.heap[b]? = u.heap[b]?) ∧
      (tkE S.G S.L S.room = 0 → Calls Tryz.prog 112 #[.pointer (some ⟨g, 0, none⟩), .int .i64 (tkV S.G S.L S.room), .agg (pl P).toArray] w1 fun e w2 => e = .returned (.tuple #[]) ∧ Chg LSB w w2 g F (spS S P))) := Lib.hid (fun hbt u q => by
    rw [hb] at hbt
    have hE : spE S P = tkE S.G S.L S.room := by unfold spE; rw [if_pos hbt]
    obtain ⟨ls, lt, ⟨p, mb, ts, Lf, gv, lab, h, hF⟩, hI⟩ := h0
    have h1 := h.keep q
    refine ⟨p, h1.c0, ?_⟩
    refine (qtake p S.room S.G S.L u hW.ok.1 hW.ok.gen h1.pool).mono ?_
    rintro e w1 ⟨rfl, hr, hgr⟩
    have hcm := h1.pooled hF hgr hr
    refine ⟨rfl, fun hne => ?_, fun b hbl hn => hcm.blk hbl hn, fun hz => ?_⟩
    · have hS : spS S P = S := by unfold spS; rw [if_neg (by rw [hE]; exact hne)]
      have hL : tkL S.G S.L S.room = S.L := by
        cases ht : tkI S.G S.L S.room with
        | none => exact (tk_none_v ht).2.2
        | some i => exact absurd (tk_some_v ht).2 hne
      rw [hL] at hcm
      rw [hS]
      exact LSB.of_cm (hcm.of q) hI
    · obtain ⟨hW', hd, hin⟩ := ws_spawn hW (P := P) (by rw [hE]; exact hz)
      have hV : spV S P = tkV S.G S.L S.room := by unfold spV; rw [if_pos (by rw [hE]; exact hz)]
      have hSS : spS S P = { S with L := tkL S.G S.L S.room, T := upf S.T P.1.toNat (tadR P.1 (S.T P.1.toNat) (tkV S.G S.L S.room) P), ch := markL S.ch (tkV S.G S.L S.room) S.now } := by unfold spS; rw [if_pos (by rw [hE]; exact hz)]
      rw [hV] at hin hd
      obtain ⟨k32, hkP, _, _⟩ := right_has hbt
      have hlv : liveS (spS S P) (tkV S.G S.L S.room) = true := (hW'.live _).2 ⟨P, (hin _ _).2 (Or.inr ⟨rfl, rfl⟩)⟩
      have hI' := hI.put hW hW' hin (by rw [hSS]) (by rw [hSS]) (by rw [hSS])
      obtain ⟨F1, hb1, hf1, hn1⟩ := hcm
      refine (ladd_any hb1 (tkV S.G S.L S.room) (live_ok hlv) P k32 hkP.symm (hB.2.2.1 _ k32)).mono ?_
      rintro e w2 ⟨rfl, hc⟩
      refine ⟨rfl, LSB.of_cm ?_ hI'⟩
      have hc2 := ((CM.join hf1 hn1 hc).of q).chs (markL S.ch (tkV S.G S.L S.room) S.now)
      rw [hSS]
      rw [hkP] at hc2
      exact hc2)
  have HV1 : Hid (b = false → spV S P = 0 ∧ spE S P = 1 ∧ spS S P = S) := Lib.hid (fun c => by
    have e1 : spE S P = 1 := by unfold spE; rw [← hb, c]; rfl
    refine ⟨by unfold spV; rw [e1]; rfl, e1, by unfold spS; rw [e1]; rfl⟩)
  have HV2 : Hid (b = true → spE S P = tkE S.G S.L S.room ∧ (tkE S.G S.L S.room = 0 → spV S P = tkV S.G S.L S.room) ∧ (tkE S.G S.L S.room ≠ 0 → spV S P = 0)) := Lib.hid (fun c => by
    have e1 : spE S P = tkE S.G S.L S.room := by unfold spE; rw [← hb, c]; rfl
    exact ⟨e1, fun z => by unfold spV; rw [e1, z]; rfl, fun z => by unfold spV; rw [e1, if_neg z]⟩)
  obtain ⟨X, hX⟩ : ∃ X, X = pl P := ⟨_, rfl⟩
  rw [← hX] at HPX HRi HTk ⊢
  obtain ⟨v, hv⟩ : ∃ v, v = tkV S.G S.L S.room := ⟨_, rfl⟩
  obtain ⟨E, hEE⟩ : ∃ E, E = tkE S.G S.L S.room := ⟨_, rfl⟩
  rw [← hv, ← hEE] at HTk HV2
  have KX := Lib.hid (Blk.new w 52 X.toArray)
  have HB0 : Hid (Below w.heap.size w (w.alloc (.cells X.toArray 52))) := Lib.hid (alloc_below _ _)
  have hFw : Hid (¬ F w.heap.size) := Lib.hid (by
    obtain ⟨ls, lt, ⟨p, mb, ts, Lf, gv, lab, h, hF⟩, hI⟩ := h0
    exact fun c => by have := h.inb _ ((hF _).1 c); omega)
  clear hX hb hv hEE h0 hW hB
  go_enter Tryz.func62, Tryz.ntmps62
  go_upto_region 1 with fail
  refine fin (fun W => Blk W w.heap.size 52 X.toArray ∧ Below w.heap.size w W) ⟨KX.out, HB0.out⟩ ?_
  clear KX HB0
  rintro W0 ⟨kx, hb0⟩
  have KX := Lib.hid kx
  have HB0 := Lib.hid hb0
  have zx := kx.lt
  have zg : g < W0.heap.size := Nat.lt_of_lt_of_le hg hb0.size
  clear kx hb0
  go_wp2_with (refine wpList_load_g rfl 52 (.tmp 3) rfl w.heap.size 0 rfl X _ (blk_whole KX.out) Tryz.underlying52 rfl HPX.out.2.1 ?_)
  refine (HRi.out _).mono ?_
  rintro e w1 ⟨rfl, b1⟩
  replace KX := Lib.hid (Blk.keep KX.out b1)
  replace HB0 := Lib.hid (bthen HB0.out b1)
  clear b1 zx zg
  have zx := KX.out.lt
  have zg : g < w1.heap.size := Nat.lt_of_lt_of_le hg HB0.out.size
  cases b with
  | false =>
    obtain ⟨v1, v2, v3⟩ := HV1.out rfl
    have V1 := Lib.hid v1
    have V2 := Lib.hid v2
    have V3 := Lib.hid v3
    clear v1 v2 v3 HTk HV2 HV1
    go_wp2
    go_ret2
    exact ⟨by rw [V1.out, V2.out]; rfl, by rw [V3.out]; exact LSB.still H0.out HB0.out⟩
  | true =>
    obtain ⟨v1, v2, v3⟩ := HV2.out rfl
    have V1 := Lib.hid v1
    have V2 := Lib.hid v2
    have V3 := Lib.hid v3
    obtain ⟨p, cp, hta⟩ := HTk.out rfl _ HB0.out
    have HTa := Lib.hid hta
    clear v1 v2 v3 HTk HV2 HV1 hta
    go_wp2_with fail
    refine HTa.out.mono ?_
    rintro e w2 ⟨rfl, hno, hblk, hadd⟩
    have HNo := Lib.hid hno
    have HAd := Lib.hid hadd
    replace KX := Lib.hid (KX.out.same (hblk _ zx hFw.out))
    clear hno hadd hblk zx zg cp HTa
    have zx := KX.out.lt
    by_cases hE : E = 0
    · replace HAd := Lib.hid (HAd.out hE)
      have V4 := Lib.hid (V2.out hE)
      have V5 := Lib.hid (V1.out.trans hE)
      clear V1 V2 V3 HNo
      subst hE
      go_wp2_with (refine wpList_load_mid rfl 52 (.tmp 3) rfl w.heap.size 0 rfl X _ (blk_whole KX.out) Tryz.underlying52 rfl HPX.out.2.1 ?_)
      refine HAd.out.mono ?_
      rintro e w3 ⟨rfl, hc⟩
      have HC := Lib.hid hc
      clear hc
      go_wp2
      go_ret2
      exact ⟨by rw [V4.out, V5.out]; rfl, HC.out⟩
    · have hne : (E != 0) = true := by simpa using hE
      have HC := Lib.hid (HNo.out hE)
      have V4 := Lib.hid (V3.out hE)
      clear V2 V3 HNo HAd
      go_wp2
      go_ret2
      exact ⟨by rw [V4.out, V1.out]; rfl, HC.out⟩

set_option maxHeartbeats 1000000 in
set_option maxRecDepth 100000 in
theorem lall_any {w : World} {g : Nat} {F : Nat → Prop} {S : St} (h0 : LSB w g F S) (hW : WS S) :
    Calls Tryz.prog 92 #[.pointer (some ⟨g, 0, none⟩)] w fun e w' => ∃ a cap, e = .returned (.slice a (alS S).length cap) ∧ Row w' a (alS S).length (alS S) ∧ Below w.heap.size w w' := by
  have hg := h0.inH
  obtain ⟨p, c0, _, hal⟩ := h0.live
  have HAl := Lib.hid (hal hW.ok)
  clear hal h0 hW
  go_enter Tryz.func92, Tryz.ntmps92
  go_wp2_with fail
  refine HAl.out.mono ?_
  rintro e w1 ⟨a, cap, rfl, hr, hb⟩
  have HR := Lib.hid (And.intro hr hb)
  clear hr hb
  go_wp2
  go_ret
  exact ⟨a, cap, rfl, HR.out.1, HR.out.2⟩
set_option maxHeartbeats 1000000 in
set_option maxRecDepth 100000 in
theorem ltick_any {w : World} {g : Nat} {F : Nat → Prop} {S : St} (h0 : LSB w g F S) :
    Calls Tryz.prog 43 #[.pointer (some ⟨g, 0, none⟩)] w fun e w' => e = .returned (.int .i64 S.now) ∧ Below w.heap.size w w' := by
  have hg := h0.inH
  obtain ⟨ls, lt, ⟨p, mb, ts, Lf, gv, lab, h, hF⟩, hI⟩ := h0
  have c2 := h.c2
  clear h hF hI
  go_enter Tryz.func43, Tryz.ntmps43
  go_wp2
  go_ret
  exact ⟨rfl, Below.refl _ _⟩
set_option maxHeartbeats 1000000 in
set_option maxRecDepth 100000 in
theorem lnext_any {w : World} {g : Nat} {F : Nat → Prop} {S : St} (h0 : LSB w g F S) (hB : Bd S 1000) :
    Calls Tryz.prog 79 #[.pointer (some ⟨g, 0, none⟩)] w fun e w' => e = .returned (.int .i64 (S.now + 1)) ∧ Chg LSB w w' g F (neS S) := by
  have hg := h0.inH
  obtain ⟨ls, lt, ⟨p, mb, ts, Lf, gv, lab, h, hF⟩, hI⟩ := h0
  have c2 := h.c2
  have f2 := h.row.frozen 2
  have hr := h.row.set 2 (.int .i64 (S.now + 1))
  have HC : Hid (Chg LSB w (w.setCell ⟨g, 2, none⟩ (.int .i64 (S.now + 1))) g F (neS S)) := Lib.hid (LSB.of_cm (LM.cells (F := F) h hF (now' := S.now + 1) (grown_set w g _ _) (hr.congr (fun j _ => lF_upNow _ j))) hI.ne)
  have hn0 : 0 < S.now := hB.2.2.2.1
  have hn1 : S.now ≤ 1001 := by have := hB.2.2.2.2.1; omega
  obtain ⟨nw, hnw⟩ : ∃ nw, nw = S.now := ⟨_, rfl⟩
  rw [← hnw] at c2 hn0 hn1 HC ⊢
  clear h hF hI hr hB hnw
  go_enter Tryz.func79, Tryz.ntmps79
  go_wp2
  go_ret
  exact ⟨rfl, HC.out⟩

end Go.Proofs.YthhfcedhbfandaaGreat
