/-
  2 texts in one file, each with its own heading.
-/
import Derived.Test.YtcpgkkphibhdfaaGreatMLsb
/-
  What holds of every landed store: which set and which tick stand at an entity's index; its predicate.
-/
namespace Go.Proofs.YtcpgkkphibhdfaaGreat
open Go.RowKit

structure LI (S : St) (ls lt : Nat → Int) : Prop where
  set_ : ∀ x P, inS S x P → ls (x % 256).toNat = P.1
  chm : ∀ x, liveS S x = true → (x, lt (x % 256).toNat) ∈ S.ch
  chn : (S.ch.map Prod.fst).Nodup
  gop : S.go.Pairwise (fun a b => a.2 ≤ b.2)
  gon : ∀ x ∈ S.go, x.2 ≤ S.now
/-- the landed store -/
def LSB (w : World) (g : Nat) (F : Nat → Prop) (S : St) : Prop := ∃ ls lt, LB w g F S ls lt ∧ LI S ls lt
theorem live_inj {G : Nat → Int} {L : Nat → Bool} {x y : Int} (hx : liveB G L x = true) (hy : liveB G L y = true) (e : (x % 256).toNat = (y % 256).toNat) : x = y := by
  obtain ⟨x0, _, _, x3⟩ := live_iff.1 hx
  obtain ⟨y0, _, _, y3⟩ := live_iff.1 hy
  rw [e] at x3
  omega
theorem live_ok {S : St} {x : Int} (h : liveS S x = true) : idOk x = true := by
  obtain ⟨x0, x1, _⟩ := live_iff.1 h
  unfold idOk
  rw [decide_eq_true x0, decide_eq_true x1]
  rfl
theorem mark_nod {ch : List (Int × Int)} (h : (ch.map Prod.fst).Nodup) (id now : Int) : ((markL ch id now).map Prod.fst).Nodup := by
  unfold markL
  rw [List.map_append]
  refine List.nodup_append.2 ⟨List.Nodup.sublist (List.Sublist.map _ List.filter_sublist) h, by simp, fun a ha b hb e => ?_⟩
  obtain ⟨y, hy, rfl⟩ := List.mem_map.1 ha
  rw [List.mem_filter] at hy
  simp at hb
  rw [e, hb] at hy
  simp at hy
theorem mark_old {ch : List (Int × Int)} {id now x t : Int} (h : (x, t) ∈ ch) (hn : x ≠ id) : (x, t) ∈ markL ch id now := by
  unfold markL
  rw [List.mem_append, List.mem_filter]
  exact Or.inl ⟨h, by simpa using hn⟩
section
variable {S S' : St} {ls lt : Nat → Int}
theorem LI.put (h : LI S ls lt) (hW : WS S) (hW' : WS S') {id : Int} {P : PT} (hin : ∀ x Q, inS S' x Q ↔ (inS S x Q ∧ x ≠ id) ∨ (x = id ∧ Q = P)) (hnow : S'.now = S.now) (hch : S'.ch = markL S.ch id S.now) (hgo : S'.go = S.go) : LI S' (upf ls (id % 256).toNat P.1) (upf lt (id % 256).toNat S.now) := by
  have hid : liveS S' id = true := (hW'.live id).2 ⟨P, (hin id P).2 (Or.inr ⟨rfl, rfl⟩)⟩
  have hoff : ∀ x, liveS S' x = true → x ≠ id → (x % 256).toNat ≠ (id % 256).toNat := fun x hx hn e => hn (live_inj hx hid e)
  refine ⟨fun x Q hx => ?_, fun x hx => ?_, by rw [hch]; exact mark_nod h.chn _ _, by rw [hgo]; exact h.gop, by rw [hgo, hnow]; exact h.gon⟩
  · have hl : liveS S' x = true := (hW'.live x).2 ⟨Q, hx⟩
    unfold upf
    rcases (hin x Q).1 hx with ⟨h1, h2⟩ | ⟨rfl, rfl⟩
    · rw [if_neg (hoff x hl h2)]; exact h.set_ x Q h1
    · rw [if_pos rfl]
  · unfold upf
    rw [hch]
    obtain ⟨Q, hQ⟩ := (hW'.live x).1 hx
    rcases (hin x Q).1 hQ with ⟨h1, h2⟩ | ⟨rfl, rfl⟩
    · rw [if_neg (hoff x hx h2)]
      exact mark_old (h.chm x ((hW.live x).2 ⟨Q, h1⟩)) h2
    · rw [if_pos rfl]
      exact mark_new _ _ _
theorem LI.cut (h : LI S ls lt) (hW : WS S) (hW' : WS S') {id : Int} (hin : ∀ x Q, inS S' x Q ↔ inS S x Q ∧ x ≠ id) (hnow : S'.now = S.now) (hch : S'.ch = S.ch) (hgo : S'.go = S.go ++ [(id, S.now)]) : LI S' ls lt := by
  refine ⟨fun x Q hx => h.set_ x Q ((hin x Q).1 hx).1, fun x hx => ?_, by rw [hch]; exact h.chn, ?_, ?_⟩
  · obtain ⟨Q, hQ⟩ := (hW'.live x).1 hx
    rw [hch]
    exact h.chm x ((hW.live x).2 ⟨Q, ((hin x Q).1 hQ).1⟩)
  · rw [hgo]
    exact List.pairwise_append.2 ⟨h.gop, by simp, fun a ha b hb => by simp at hb; rw [hb]; exact h.gon a ha⟩
  · rw [hgo, hnow]
    intro x hx
    rw [List.mem_append] at hx
    rcases hx with hx | hx
    · exact h.gon x hx
    · simp at hx; rw [hx]; exact Int.le_refl _
theorem LI.mark_ (h : LI S ls lt) {id : Int} (hl : liveS S id = true) : LI (to1 S id) ls (upf lt (id % 256).toNat S.now) := by
  have e : to1 S id = { S with ch := markL S.ch id S.now } := by unfold to1; rw [if_pos hl]
  rw [e]
  refine ⟨h.set_, fun x hx => ?_, mark_nod h.chn _ _, h.gop, h.gon⟩
  have hx' : liveS S x = true := hx
  show (x, upf lt (id % 256).toNat S.now (x % 256).toNat) ∈ markL S.ch id S.now
  unfold upf
  by_cases c : x = id
  · rw [if_pos (by rw [c]), c]; exact mark_new _ _ _
  · rw [if_neg (fun e => c (live_inj hx' hl e))]
    exact mark_old (h.chm x hx') c
theorem LI.ne (h : LI S ls lt) : LI (neS S) ls lt := ⟨h.set_, h.chm, h.chn, h.gop, fun x hx => by have := h.gon x hx; show x.2 ≤ S.now + 1; omega⟩
theorem getB_live (hW : WS S) (id : Int) : getB S id = liveS S id := by
  cases c : liveS S id with
  | true => exact getB_iff.2 ((hW.live id).1 c)
  | false =>
    cases d : getB S id with
    | false => rfl
    | true => exact absurd ((hW.live id).2 (getB_iff.1 d)) (by rw [c]; simp)
theorem at_live (hW : WS S) {id : Int} {i : Nat} (ha : atS S id = some i) : liveS S id = true := by
  rw [← getB_live hW]; unfold getB; rw [ha]; rfl
theorem at_dead (hW : WS S) {id : Int} (ha : atS S id = none) : liveS S id = false := by
  rw [← getB_live hW]; unfold getB; rw [ha]; rfl
end
/-- where it is -/
theorem LM.there {w : World} {g p mb : Nat} {S : St} {ls lt : Nat → Int} {ts : Nat → Option Nat} {Lf : Nat → Nat → Prop} {gv : Value} {lab : Nat → Nat} (h : LM w g S p mb ls lt ts Lf gv lab) (hI : LI S ls lt) (hW : WS S) {id : Int} {i : Nat} (ha : atS S id = some i) :
    idOk id = true ∧ i < 32 ∧ ls (id % 256).toNat = (i : Int) ∧ ∃ a, ts i = some a := by
  obtain ⟨hi, hh⟩ := at_some ha
  have hg := at_get hW ha
  have hP : (getP S id).1 = (i : Int) := (fits_iff.1 (hW.fit i hi _ hg)).2
  refine ⟨live_ok (at_live hW ha), hi, by rw [hI.set_ id _ ⟨i, hi, hg⟩, hP], ?_⟩
  have ht := h.tab i hi
  cases hts : ts i with
  | some a => exact ⟨a, rfl⟩
  | none =>
    rw [hts] at ht
    rw [ht.1] at hg
    cases hg
theorem LSB.of_cm {w w' : World} {g : Nat} {F : Nat → Prop} {S : St} {ls lt : Nat → Int} (h : CM w w' g F S ls lt) (hI : LI S ls lt) : Chg LSB w w' g F S := by
  obtain ⟨F', h1, h2, h3⟩ := h
  exact ⟨F', ⟨ls, lt, h1, hI⟩, h2, h3⟩
theorem LSB.still {w w' : World} {g : Nat} {F : Nat → Prop} {S : St} (h : LSB w g F S) (hb : Below w.heap.size w w') : Chg LSB w w' g F S := by
  obtain ⟨ls, lt, h1, h2⟩ := h
  exact LSB.of_cm (CM.still h1 hb) h2
theorem LSB.keep {w w' : World} {g : Nat} {F : Nat → Prop} {S : St} (h : LSB w g F S) (hb : Below w.heap.size w w') : LSB w' g F S := by
  obtain ⟨ls, lt, h1, h2⟩ := h
  exact ⟨ls, lt, h1.keep hb, h2⟩
theorem LSB.inH {w : World} {g : Nat} {F : Nat → Prop} {S : St} (h : LSB w g F S) : g < w.heap.size := by
  obtain ⟨ls, lt, h1, h2⟩ := h
  exact h1.inH
/-- does one live? -/
theorem LSB.live {w : World} {g : Nat} {F : Nat → Prop} {S : St} (h : LSB w g F S) : ∃ p, w.cell? ⟨g, 0, none⟩ = some (.pointer (some ⟨p, 0, none⟩)) ∧ (∀ id, Calls Tryz.prog 41 #[.pointer (some ⟨p, 0, none⟩), .int .i64 id] w fun e w' => e = .returned (.bool (liveS S id)) ∧ Below w.heap.size w w') ∧ (POk S.room S.G S.L → Calls Tryz.prog 44 #[.pointer (some ⟨p, 0, none⟩)] w fun e w' => ∃ a cap, e = .returned (.slice a (alS S).length cap) ∧ Row w' a (alS S).length (alS S) ∧ Below w.heap.size w w') := by
  obtain ⟨ls, lt, ⟨p, mb, ts, Lf, gv, lab, h1, hF⟩, h2⟩ := h
  exact ⟨p, h1.c0, fun id => qlive p S.room S.G S.L id w h1.pool, fun hp => qall p S.room S.G S.L w hp h1.pool⟩

end Go.Proofs.YtcpgkkphibhdfaaGreat
/-
  The landed store: what Get answers.
-/
namespace Go.Proofs.YtcpgkkphibhdfaaGreat
open Go.RowKit

theorem b9zero (W : World) : (Instr.build 44 #[]).run Tryz.prog W = .ok (.agg (pl zT).toArray) W := by kernel_rfl
theorem wpList_bld9 {ops : Array Oper} {rest : List Oper} {op : Oper} {a : Go.Act} {w : World} {Q : Exit → Go.Act → World → Prop} (hgd : op.guard = none) (t : TypeId) (ho : op.op = .build t #[]) (vr : Value)
    (hrun : ∀ W, (Instr.build t #[]).run Tryz.prog W = .ok vr W)
    (h : wpList Tryz.prog ops Q rest (a.put op.dst vr) w) : wpList Tryz.prog ops Q (op :: rest) a w :=
  wpList_plain hgd fun K hK => by
    have h2 := hK _ _ h
    unfold Oper.wp execOp
    simp only [ho]
    simp [hrun]
    exact h2
set_option maxHeartbeats 4000000 in
set_option maxRecDepth 100000 in
theorem lget_any {w : World} {g : Nat} {F : Nat → Prop} {S : St} (h0 : LSB w g F S) (hW : WS S) (hB : Bd S 1000) (id : Int) :
    Calls Tryz.prog 12 #[.pointer (some ⟨g, 0, none⟩), .int .i64 id] w fun e w' => ∃ Y, e = .returned (.tuple #[.agg (List.toArray Y), .bool (getB S id)]) ∧ Y = pl (getP S id) ∧ Below w.heap.size w w' := by
  obtain ⟨p, c0, hlv, _⟩ := h0.live
  have HLv : Hid (∀ u, Below w.heap.size w u → Calls Tryz.prog 41 #[.pointer (some ⟨p, 0, none⟩), .int .i64 id] u fun e w' => e = .returned (.bool (liveS S id)) ∧ Below u.heap.size u w') := Lib.hid (fun u k => by
    obtain ⟨p', c0', hlv', _⟩ := (h0.keep k).live
    rw [cell_keep c0 k] at c0'
    injection c0' with c0'
    injection c0' with c0'
    injection c0' with c0'
    injection c0' with c0'
    rw [c0']
    exact hlv' id)
  have HPX := Lib.hid (pxs (getP S id))
  have hg := h0.inH
  have K4 := Lib.hid (Blk.new w 44 Z24.toArray)
  have HB4 : Hid (Below w.heap.size w (w.alloc (.cells Z24.toArray 44))) := Lib.hid (alloc_below _ _)
  have c4 := cell_keep c0 HB4.out
  clear c0 hlv
  cases ha : atS S id with
  | none =>
    have e3 : getB S id = false := by unfold getB; rw [ha]; rfl
    have e4 : getP S id = zT := by unfold getP; rw [ha]
    rw [at_dead hW ha] at HLv
    rw [e3]
    have HBd : Hid (∀ W, (Instr.build 44 #[]).run Tryz.prog W = .ok (.agg (pl (getP S id)).toArray) W) := Lib.hid (by rw [e4]; exact b9zero)
    obtain ⟨Xp, hXp⟩ : ∃ Xp, Xp = pl (getP S id) := ⟨_, rfl⟩
    rw [← hXp] at HPX HBd ⊢
    clear hXp e3 e4 ha h0 hW hB
    go_enter Tryz.func12, Tryz.ntmps12
    go_upto_region 1 with fail
    refine fin (fun W => Blk W w.heap.size 44 Z24.toArray ∧ Below w.heap.size w W ∧ W.cell? ⟨g, 0, none⟩ = some (.pointer (some ⟨p, 0, none⟩))) ⟨K4.out, HB4.out, c4⟩ ?_
    clear K4 HB4 c4
    rintro W0 ⟨k4, b4, c4⟩
    have K4 := Lib.hid k4
    have HB4 := Lib.hid b4
    have zg : g < W0.heap.size := Nat.lt_of_lt_of_le hg b4.size
    clear k4 b4
    go_wp2_with fail
    refine (HLv.out _ HB4.out).mono ?_
    rintro e w1 ⟨rfl, b1⟩
    replace K4 := Lib.hid (Blk.keep K4.out b1)
    replace HB4 := Lib.hid (bthen HB4.out b1)
    have HT4 : Hid (w1.there w.heap.size 0 Xp.toArray.size) := Lib.hid (blk_there K4.out (by rw [List.size_toArray, HPX.out.1]; exact Nat.le_refl 24))
    have L4 : Hid (Blk (w1.setCells w.heap.size 0 Xp) w.heap.size 44 Xp.toArray) := Lib.hid (blk_over K4.out (by rw [HPX.out.1]; rfl))
    have z1 := K4.out.lt
    clear b1
    go_wp2_with (first | refine wpList_bld9 rfl 44 rfl (.agg Xp.toArray) HBd.out ?_ | refine wpList_store_mid rfl 44 (.tmp 4) (.tmp 22) rfl w.heap.size 0 Xp.toArray rfl rfl HT4.out HPX.out.2.2.1 HPX.out.2.2.2 ?_)
    refine fin (fun W => Blk W w.heap.size 44 Xp.toArray ∧ Below w.heap.size w W) ⟨L4.out, below_setCells _ HB4.out (Nat.le_refl _)⟩ ?_
    rintro W ⟨kr, hb⟩
    have hl := run_loadVar_mid W w.heap.size 0 44 Xp _ (blk_whole kr) Tryz.underlying44 rfl HPX.out.2.1
    try simp only [Go.Act.put, List.setIfInBounds_toArray, List.set_cons_zero, List.set_cons_succ]
    exact bodyPost_ret (v := .tuple #[.agg Xp.toArray, .bool false]) (results_cell2 Tryz.results12 rfl rfl hl) rfl ⟨Xp, rfl, rfl, hb⟩
  | some i =>
    have e3 : getB S id = true := by unfold getB; rw [ha]; rfl
    obtain ⟨hi, hh⟩ := at_some ha
    obtain ⟨r, hrl, hfr, hrid, hin⟩ := find_row (hW.nod i hi) hh
    have e4 : getP S id = ((S.T i).getD (findI (S.T i) id).toNat d0).2 := by unfold getP; rw [ha]
    rw [at_live hW ha] at HLv
    rw [e3]
    obtain ⟨ls, lt, ⟨p2, mb, ts, Lf, gv, lab, h, hF⟩, hI⟩ := h0
    obtain ⟨ho, _, hls, a, hts⟩ := h.there hI hW ha
    have HFi : Hid (∀ u, Below w.heap.size w u → Calls Tryz.prog 42 #[.pointer (some ⟨g, 0, none⟩), .int .i64 id] u fun e w' => e = .returned (.tuple #[.pointer (some ⟨a, 0, none⟩), .int .i64 (findI (S.T i) id)]) ∧ Below u.heap.size u w') := Lib.hid (fun u k => lfind_any (h.keep k) id ho hi hls hts (hB.2.2.1 i hi))
    have HRw : Hid (∀ u, Below w.heap.size w u → Calls Tryz.prog 43 #[.pointer (some ⟨a, 0, none⟩), .int .i64 (findI (S.T i) id)] u fun e w' => ∃ x : Int, e = .returned (.tuple #[.int .i64 x, .agg (pl (getP S id)).toArray, .bool true]) ∧ Below u.heap.size u w') := Lib.hid (fun u k => by
      have ht := (h.keep k).tab i hi
      rw [hts] at ht
      refine (trow_any u a (Lf i) i (S.T i) (findI (S.T i) id) (hB.2.2.1 i hi) ht).mono ?_
      rintro e w' ⟨x, P, rfl, q1, q2⟩
      have := q1 hin
      refine ⟨x, ?_, q2⟩
      rw [hin, e4, ← this])
    obtain ⟨Xp, hXp⟩ : ∃ Xp, Xp = pl (getP S id) := ⟨_, rfl⟩
    rw [← hXp] at HPX HRw ⊢
    obtain ⟨q, hq⟩ : ∃ q, q = findI (S.T i) id := ⟨_, rfl⟩
    rw [← hq] at HFi HRw
    clear hXp hq e3 e4 ha hW hB hh hrl hfr hrid hin h hF hI ho hls hts
    go_enter Tryz.func12, Tryz.ntmps12
    go_upto_region 1 with fail
    refine fin (fun W => Blk W w.heap.size 44 Z24.toArray ∧ Below w.heap.size w W ∧ W.cell? ⟨g, 0, none⟩ = some (.pointer (some ⟨p, 0, none⟩))) ⟨K4.out, HB4.out, c4⟩ ?_
    clear K4 HB4 c4
    rintro W0 ⟨k4, b4, c4⟩
    have K4 := Lib.hid k4
    have HB4 := Lib.hid b4
    have zg : g < W0.heap.size := Nat.lt_of_lt_of_le hg b4.size
    clear k4 b4
    go_wp2_with fail
    refine (HLv.out _ HB4.out).mono ?_
    rintro e w1 ⟨rfl, b1⟩
    replace K4 := Lib.hid (Blk.keep K4.out b1)
    replace HB4 := Lib.hid (bthen HB4.out b1)
    clear b1 c4
    go_wp2_with fail
    refine (HFi.out _ HB4.out).mono ?_
    rintro e w2 ⟨rfl, b1⟩
    replace K4 := Lib.hid (Blk.keep K4.out b1)
    replace HB4 := Lib.hid (bthen HB4.out b1)
    clear b1
    go_wp2_with fail
    refine (HRw.out _ HB4.out).mono ?_
    rintro e w3 ⟨x, rfl, b1⟩
    replace K4 := Lib.hid (Blk.keep K4.out b1)
    replace HB4 := Lib.hid (bthen HB4.out b1)
    clear b1
    have KA := Lib.hid (Blk.new w3 44 Z24.toArray)
    have HTA : Hid ((w3.alloc (.cells Z24.toArray 44)).there w3.heap.size 0 Xp.toArray.size) := Lib.hid (blk_there KA.out (by rw [List.size_toArray, HPX.out.1]; exact Nat.le_refl 24))
    have HBA : Hid (Below w3.heap.size w3 ((w3.alloc (.cells Z24.toArray 44)).setCells w3.heap.size 0 Xp)) := Lib.hid (below_setCells Xp (alloc_below _ _) (Nat.le_refl _))
    have LA : Hid (Blk ((w3.alloc (.cells Z24.toArray 44)).setCells w3.heap.size 0 Xp) w3.heap.size 44 Xp.toArray) := Lib.hid (by
      have := blk_setCells Xp (o := 0) KA.out (by rw [HPX.out.1]; exact Nat.le_refl 24)
      rwa [splice_all (by rw [HPX.out.1]; rfl)] at this)
    go_upto_region 5 with (refine wpList_store_mid rfl 44 (.tmp 9) (.tmp 34) rfl w3.heap.size 0 Xp.toArray rfl rfl HTA.out HPX.out.2.2.1 HPX.out.2.2.2 ?_)
    refine fin (fun W => Blk W w3.heap.size 44 Xp.toArray ∧ Blk W w.heap.size 44 Z24.toArray ∧ Below w.heap.size w W) ⟨LA.out, Blk.keep K4.out HBA.out, bthen HB4.out HBA.out⟩ ?_
    obtain ⟨g9, hg9⟩ : ∃ g9, g9 = w3.heap.size := ⟨_, rfl⟩
    rw [← hg9]
    clear KA HTA HBA LA HB4 hg9 K4
    rintro W ⟨k9, k4, hb⟩
    have K9 := Lib.hid (blk_whole k9)
    have z9 := k9.lt
    have z4 := k4.lt
    have HB5 := Lib.hid hb
    have HT4 : Hid (W.there w.heap.size 0 Xp.toArray.size) := Lib.hid (blk_there k4 (by rw [List.size_toArray, HPX.out.1]; exact Nat.le_refl 24))
    have L4 : Hid (Blk (W.setCells w.heap.size 0 Xp) w.heap.size 44 Xp.toArray) := Lib.hid (blk_over k4 (by rw [HPX.out.1]; rfl))
    clear k9 k4 hb
    go_wp2_with (first | refine wpList_load_mid rfl 44 (.tmp 9) rfl g9 0 rfl Xp _ K9.out Tryz.underlying44 rfl HPX.out.2.1 ?_ | refine wpList_store_mid rfl 44 (.tmp 4) (.tmp 36) rfl w.heap.size 0 Xp.toArray rfl rfl HT4.out HPX.out.2.2.1 HPX.out.2.2.2 ?_)
    refine fin (fun W => Blk W w.heap.size 44 Xp.toArray ∧ Below w.heap.size w W) ⟨L4.out, below_setCells _ HB5.out (Nat.le_refl _)⟩ ?_
    rintro W2 ⟨kr, hb⟩
    have hl := run_loadVar_mid W2 w.heap.size 0 44 Xp _ (blk_whole kr) Tryz.underlying44 rfl HPX.out.2.1
    try simp only [Go.Act.put, List.setIfInBounds_toArray, List.set_cons_zero, List.set_cons_succ]
    exact bodyPost_ret (v := .tuple #[.agg Xp.toArray, .bool true]) (results_cell2 Tryz.results12 rfl rfl hl) rfl ⟨Xp, rfl, rfl, hb⟩

end Go.Proofs.YtcpgkkphibhdfaaGreat
