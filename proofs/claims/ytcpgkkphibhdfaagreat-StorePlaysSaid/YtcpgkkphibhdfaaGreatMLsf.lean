/-
  2 texts in one file, each with its own heading.
-/
import Derived.Test.YtcpgkkphibhdfaaGreatMLsd
/-
  The landed store: what Touch answers.
-/
namespace Go.Proofs.YtcpgkkphibhdfaaGreat
open Go.RowKit

/-- a number of the walk -/
def ivl : Value → Int
  | .int _ q => q
  | _ => 0
theorem live_to9 (S : St) (x y : Int) : liveS (to1 S x) y = liveS S y := by unfold to1; split <;> rfl
theorem live_tos9 : ∀ (l : List Int) (S : St) (y : Int), liveS (toS S l) y = liveS S y
  | [], _, _ => rfl
  | x :: l, S, y => by
    show liveS (toS (to1 S x) l) y = _
    rw [live_tos9 l, live_to9]
theorem tos_snoc9 {S : St} {xs : List Int} {k : Nat} {x : Int} (h : xs[k]? = some x) : toS S (xs.take (k + 1)) = to1 (toS S (xs.take k)) x := by
  unfold toS
  rw [List.take_add_one, h, List.foldl_append]
  rfl
theorem ton_snoc9 {S : St} {xs : List Int} {k : Nat} {x : Int} (h : xs[k]? = some x) : toN S (xs.take (k + 1)) = toN S (xs.take k) + (if liveS S x then 1 else 0) := by
  unfold toN
  rw [List.take_add_one, h, List.filter_append, List.length_append]
  by_cases c : liveS S x = true
  · simp [c]
  · simp [c]
theorem Chg.joins {w w1 w2 : World} {g : Nat} {F F1 : Nat → Prop} {S : St} (hf : Fr w w1 F) (hn : ∀ b, F1 b → F b ∨ w.heap.size ≤ b) (k : Chg LSB w1 w2 g F1 S) : Chg LSB w w2 g F S := by
  obtain ⟨F2, ⟨ls, lt, h1, hI⟩, h2, h3⟩ := k
  obtain ⟨F3, q1, q2, q3⟩ := CM.join hf hn ⟨F2, h1, h2, h3⟩
  exact ⟨F3, ⟨ls, lt, q1, hI⟩, q2, q3⟩
/-- a tick, written -/
theorem LSB.ticked {u : World} {g : Nat} {F : Nat → Prop} {S : St} (h : LSB u g F S) {id : Int} (hl : liveS S id = true) :
    ∃ k : Nat, k < 256 ∧ (∀ w', Calls Tryz.prog 48 #[.int .i64 id] w' fun e w'' => e = .returned (.int .i64 (k : Int)) ∧ w' = w'') ∧ u.cell? ⟨g, 2, none⟩ = some (.int .i64 S.now) ∧ (∃ v, u.cell? ⟨g, 3 + k * 2 + 1, none⟩ = some (.int .i64 v)) ∧ u.frozen? ⟨g, 3 + k * 2 + 1, none⟩ = false ∧
      (u.setCell ⟨g, 3 + k * 2 + 1, none⟩ (.int .i64 S.now)).drew.cell? ⟨g, 2, none⟩ = some (.int .i64 S.now) ∧ Chg LSB u (u.setCell ⟨g, 3 + k * 2 + 1, none⟩ (.int .i64 S.now)).drew g F (to1 S id) := by
  obtain ⟨ls, lt, ⟨p, mb, ts, Lf, gv, lab, h1, hF⟩, hI⟩ := h
  obtain ⟨k, hk, hk2, hix⟩ := ix_any (live_ok hl)
  have hr := h1.row.set (3 + k * 2 + 1) (.int .i64 S.now)
  refine ⟨k, hk, hix, h1.c2, ⟨_, h1.cT hk⟩, h1.row.frozen _, ?_, ?_⟩
  · rw [hr.drew.cell (by omega), if_neg (by omega)]; rfl
  · have hI2 := hI.mark_ hl
    rw [hk2] at hI2
    refine LSB.of_cm ?_ hI2
    have e : to1 S id = { S with ch := markL S.ch id S.now } := by unfold to1; rw [if_pos hl]
    rw [e]
    have hc := LM.cells (F := F) h1 hF (now' := S.now) (grown_set u g _ _) (ls' := ls) (lt' := upf lt k S.now) (hr.congr (fun j _ => lF_upTick hk _ j))
    obtain ⟨F', ⟨p', mb', ts', Lf', gv', lab', q1, q2⟩, q3, q4⟩ := hc.back (w2 := (u.setCell ⟨g, 3 + k * 2 + 1, none⟩ (.int .i64 S.now)).drew) (bdrewn (Below.refl _ _))
    exact ⟨F', ⟨p', mb', ts', Lf', gv', lab', ⟨q1.row, q1.pool, q1.map, q1.tab, q1.gos, q1.lg, q1.lp, q1.lm, q1.lv, q1.lT⟩, q2⟩, q3, q4⟩

set_option maxHeartbeats 4000000 in
set_option maxRecDepth 100000 in
theorem ltouch_any {w : World} {g : Nat} {F : Nat → Prop} {S : St} (h0 : LSB w g F S) (a : Option Addr) (n cap : Nat) (xs : List Int) (hn : n ≤ 1000) (row : Row w a n xs) (haw : Aw F a n) :
    Calls Tryz.prog 19 #[.pointer (some ⟨g, 0, none⟩), .slice a n cap] w fun e w' => e = .returned (.int .i64 (toN S xs : Nat)) ∧ Chg LSB w w' g F (toS S xs) := by
  have HRow := Lib.hid row
  have HAw := Lib.hid haw
  have HL := Lib.hid row.1
  have hbig := row.2.1
  have H0 := Lib.hid h0
  clear row haw h0
  go_enter Tryz.func19, Tryz.ntmps19
  go_wp2
  go_loopw [5, 12] (fun v5 i wr => ∃ k : Nat, k ≤ n ∧ i = .int .i64 k ∧ v5 = .int .i64 (toN S (xs.take k) : Nat) ∧ Chg LSB w wr g F (toS S (xs.take k))) (fun _ i _ => n - (ivl i).toNat)
  case atStart => exact ⟨0, by omega, rfl, rfl, LSB.still H0.out (Below.refl _ _)⟩
  case round =>
    obtain ⟨k, hk, rfl, rfl, hch⟩ := hrel
    obtain ⟨F1, hrb, hfr, hnew⟩ := hch
    have HRB := Lib.hid hrb
    have HFr := Lib.hid (And.intro hfr hnew)
    have hg : g < wr.heap.size := hrb.inH
    clear hfr hnew
    by_cases hlt : k < n
    · obtain ⟨b, off, x, rfl, hx, cx⟩ := row_at (row_frame HRow.out HAw.out HFr.out.1) hlt
      have hb := World.block_lt_of_cell? _ _ cx
      have k0 : (0 : Int) ≤ (k : Int) := by omega
      have k1 : (k : Int) < (n : Int) := by omega
      have HSn := Lib.hid (tos_snoc9 (S := S) hx)
      have HNn := Lib.hid (ton_snoc9 (S := S) hx)
      obtain ⟨p, cp, hlv, _⟩ := hrb.live
      have HLv := Lib.hid (hlv x)
      rw [live_tos9] at HLv
      obtain ⟨c, hc⟩ : ∃ c, c = toN S (xs.take k) := ⟨_, rfl⟩
      have hcl : c ≤ n := by rw [hc]; unfold toN; refine Nat.le_trans (List.length_filter_le _ _) ?_; rw [List.length_take]; omega
      rw [← hc] at HNn ⊢
      clear hlv hx hc hrb
      cases hlx : liveS S x with
      | false =>
        have e1 : Hid (toS S (xs.take (k + 1)) = toS S (xs.take k)) := Lib.hid (by rw [HSn.out]; unfold to1; rw [live_tos9, hlx]; rfl)
        rw [hlx] at HNn HLv
        clear hlx
        go_wp2_with fail
        refine HLv.out.mono ?_
        rintro e w1 ⟨rfl, b1⟩
        have HC : Hid (Chg LSB w w1 g F (toS S (xs.take k))) := Lib.hid (Chg.joins HFr.out.1 HFr.out.2 (LSB.still HRB.out b1))
        clear b1
        go_wp2
        go_roundw
        case rel => exact ⟨k + 1, by omega, by go_num, by rw [HNn.out]; rfl, by rw [e1.out]; exact HC.out⟩
        case measure => simp [ivl] <;> omega
      | true =>
        have hl2 : Hid (liveS (toS S (xs.take k)) x = true) := Lib.hid (by rw [live_tos9, hlx])
        rw [hlx] at HNn HLv
        clear hlx
        go_wp2_with fail
        refine HLv.out.mono ?_
        rintro e w1 ⟨rfl, b1⟩
        obtain ⟨j, hj, hix, c2, ⟨v, ct⟩, ft, c2', hcc⟩ := (HRB.out.keep b1).ticked hl2.out
        have HIx := Lib.hid hix
        have HC : Hid (Chg LSB w (w1.setCell ⟨g, 3 + j * 2 + 1, none⟩ (.int .i64 (toS S (xs.take k)).now)).drew g F (toS S (xs.take (k + 1)))) := Lib.hid (by
          rw [HSn.out]
          exact Chg.joins (Fr.behind HFr.out.1 b1) HFr.out.2 hcc)
        obtain ⟨now, hnow⟩ : ∃ now, now = (toS S (xs.take k)).now := ⟨_, rfl⟩
        rw [← hnow] at c2 c2' HC
        have hg1 : g < w1.heap.size := Nat.lt_of_lt_of_le hg b1.size
        have j0 : (0 : Int) ≤ (j : Int) := by omega
        have j1 : (j : Int) < 256 := by omega
        have HC2 := Lib.hid c2'
        clear b1 hcc hix hnow c2' cp cx
        go_wp2
        go_region_held3 (fun w' => w'.cell? ⟨g, 2, none⟩ = some (.int .i64 now)) (first | exact c2 | exact HC2.out | go_keep)
          (first | (go_at_call 48; refine (HIx.out _).mono ?_; rintro e w3 ⟨rfl, rfl⟩))
        refine fin (fun W => Chg LSB w W g F (toS S (xs.take (k + 1)))) HC.out ?_
        rintro W hcw
        have HCW := Lib.hid hcw
        clear hcw HC HC2 c2 ct ft
        go_wp2
        go_roundw
        case rel => exact ⟨k + 1, by omega, by go_num, by rw [HNn.out]; go_num, HCW.out⟩
        case measure => simp [ivl] <;> omega
    · obtain rfl : k = n := by omega
      have e0 : xs.take k = xs := List.take_of_length_le (by have := HL.out; omega)
      rw [e0] at HRB ⊢
      clear hrb
      go_wp2
      go_ret
      exact ⟨rfl, F1, HRB.out, HFr.out.1, HFr.out.2⟩

end Go.Proofs.YtcpgkkphibhdfaaGreat
/-
  The landed store: what replace answers.
-/
namespace Go.Proofs.YtcpgkkphibhdfaaGreat
open Go.RowKit

theorem CM.chs {w w' : World} {g : Nat} {F : Nat → Prop} {S : St} {ls lt : Nat → Int} (h : CM w w' g F S ls lt) (c : List (Int × Int)) : CM w w' g F { S with ch := c } ls lt := by
  obtain ⟨F', ⟨p, mb, ts, Lf, gv, lab, q1, q2⟩, q3, q4⟩ := h
  exact ⟨F', ⟨p, mb, ts, Lf, gv, lab, ⟨q1.row, q1.pool, q1.map, q1.tab, q1.gos, q1.lg, q1.lp, q1.lm, q1.lv, q1.lT⟩, q2⟩, q3, q4⟩
set_option maxHeartbeats 1000000 in
set_option maxRecDepth 100000 in
theorem tset_any {w : World} {a : Nat} {L : Nat → Prop} {s : Int} {R : TR} (h : TBl w a L s R) :
    Calls Tryz.prog 127 #[.pointer (some ⟨a, 0, none⟩)] w fun e w' => e = .returned (.int .i64 s) ∧ w = w' := by
  obtain ⟨v, h1, _⟩ := h
  have c0 := h1.set0
  have hg := h1.blk.lt
  clear h1
  go_enter Tryz.func127, Tryz.ntmps127
  go_wp2
  go_ret
  exact ⟨rfl, rfl⟩
/-- the same set: its row is put anew -/
theorem LI.row {S : St} {ls lt : Nat → Int} (h : LI S ls lt) (hW : WS S) {id : Int} {i : Nat} (ha : atS S id = some i) {P : PT} (hf : fitsB i P = true) : LI { S with T := upf S.T i (tpuR i (S.T i) (findI (S.T i) id) P) } ls lt := by
  obtain ⟨hi, hh⟩ := at_some ha
  refine ⟨?_, h.chm, h.chn, h.gop, h.gon⟩
  rintro x Q ⟨j, hj, hm⟩
  change (x, Q) ∈ upf S.T i (tpuR i (S.T i) (findI (S.T i) id) P) j at hm
  unfold upf at hm
  by_cases c : j = i
  · rw [if_pos c] at hm
    rcases (mem_put (hW.nod i hi) hh hf).1 hm with ⟨h1, h2⟩ | h1
    · exact h.set_ x Q ⟨i, hi, h1⟩
    · injection h1 with h1 h2
      have hg := at_get hW ha
      rw [h1, h2, h.set_ id _ ⟨i, hi, hg⟩, (fits_iff.1 (hW.fit i hi _ hg)).2, (fits_iff.1 hf).2]
  · rw [if_neg c] at hm
    exact h.set_ x Q ⟨j, hj, hm⟩

set_option maxHeartbeats 4000000 in
set_option maxRecDepth 100000 in
theorem lreplace_any {w : World} {g : Nat} {F : Nat → Prop} {S : St} (h0 : LSB w g F S) (hW : WS S) (hB : Bd S 1000) (id : Int) {i : Nat} (ha : atS S id = some i) (P : PT) (hrt : rightT P = true) :
    Calls Tryz.prog 87 #[.pointer (some ⟨g, 0, none⟩), .int .i64 id, .agg (pl P).toArray] w fun e w' => e = .returned (.tuple #[]) ∧ Chg LSB w w' g F (layS S id P) := by
  obtain ⟨k32, hkP, _, _⟩ := right_has hrt
  obtain ⟨k, hk⟩ : ∃ k, k = P.1.toNat := ⟨_, rfl⟩
  rw [← hk] at k32 hkP
  have hLy : layS S id P = { S with T := layTs S.T i id P, ch := markL S.ch id S.now } := by unfold layS; rw [ha]
  obtain ⟨ls, lt, ⟨p, mb, ts, Lf, gv, lab, h, hF⟩, hI⟩ := h0
  obtain ⟨ho, hi, hls, a, hts⟩ := h.there hI hW ha
  have hR := hB.2.2.1 i hi
  have HFi : Hid (∀ u, Below w.heap.size w u → Calls Tryz.prog 42 #[.pointer (some ⟨g, 0, none⟩), .int .i64 id] u fun e w' => e = .returned (.tuple #[.pointer (some ⟨a, 0, none⟩), .int .i64 (findI (S.T i) id)]) ∧ Below u.heap.size u w') := Lib.hid (fun u q => lfind_any (h.keep q) id ho hi hls hts hR)
  have HSt : Hid (∀ u, Below w.heap.size w u → Calls Tryz.prog 127 #[.pointer (some ⟨a, 0, none⟩)] u fun e w' => e = .returned (.int .i64 (i : Int)) ∧ w' = u) := Lib.hid (fun u q => by
    have ht := (h.keep q).tab i hi
    rw [hts] at ht
    exact (tset_any ht).mono fun _ _ z => ⟨z.1, z.2.symm⟩)
  have HRem : Hid (i ≠ k → ∀ u, Below w.heap.size w u → Calls Tryz.prog 50 #[.pointer (some ⟨g, 0, none⟩), .int .i64 id] u fun e w1 => e = .returned (.tuple #[]) ∧ (∀ b, u.heap.size > b → ¬ F b → w1.heap[b]? = u.heap[b]?) ∧ Calls Tryz.prog 40 #[.pointer (some ⟨g, 0, none⟩), .int .i64 id, .agg (pl P).toArray] w1 fun e w2 => e = .returned (.tuple #[]) ∧ Chg LSB w w2 g F (layS S id P)) := Lib.hid (fun hik u q => by
    refine (lremove_any (F := F) (h.keep q) hF id ho hi hls hts hR).mono ?_
    rintro e w1 ⟨rfl, F1, hb1, hf1, hn1⟩
    refine ⟨rfl, fun b hb hn => hf1.2.2.2.2 b hb hn, ?_⟩
    have hTk : (upf S.T i (tcuR (S.T i) (findI (S.T i) id))) k = S.T k := by unfold upf; rw [if_neg (fun e => hik e.symm)]
    refine (ladd_any hb1 id ho P k32 hkP.symm (by show (upf S.T i (tcuR (S.T i) (findI (S.T i) id)) k).length ≤ 1000; rw [hTk]; exact hB.2.2.1 k k32)).mono ?_
    rintro e w2 ⟨rfl, hc⟩
    refine ⟨rfl, ?_⟩
    have hc2 := ((CM.join hf1 hn1 hc).of q).chs (markL S.ch id S.now)
    obtain ⟨hW', hin⟩ := ws_lay hW ha hrt
    have hI' := hI.put hW hW' hin (by rw [hLy]) (by rw [hLy]) (by rw [hLy])
    rw [← hkP] at hI'
    refine LSB.of_cm ?_ hI'
    rw [hLy]
    have eT : layTs S.T i id P = upf (upf S.T i (tcuR (S.T i) (findI (S.T i) id))) k (tadR k (upf S.T i (tcuR (S.T i) (findI (S.T i) id)) k) id P) := by
      unfold layTs
      rw [← hk, if_neg hik, hkP]
    rw [eT]
    exact hc2)
  have HPut : Hid (i = k → ∀ u, Below w.heap.size w u → Calls Tryz.prog 128 #[.pointer (some ⟨a, 0, none⟩), .int .i64 (findI (S.T i) id), .agg (pl P).toArray] u fun e w1 => ∃ z : Int, e = .returned (.int .i64 z) ∧ g < w1.heap.size ∧ Calls Tryz.prog 19 #[.pointer (some ⟨g, 0, none⟩), .slice (some ⟨w1.heap.size, 0, none⟩) 1 1] (w1.alloc (.cells #[.int .i64 id] 35)) fun e w2 => ∃ z : Int, e = .returned (.int .i64 z) ∧ Chg LSB w w2 g F (layS S id P)) := Lib.hid (fun hik u q => by
    have hf : fitsB i P = true := fits_iff.2 ⟨hrt, by rw [hik, hkP]⟩
    have h1 := h.keep q
    have ht := h1.tab i hi
    rw [hts] at ht
    refine (tput_any u a (Lf i) i (S.T i) (findI (S.T i) id) P hR ht).mono ?_
    rintro e w1 ⟨L', rfl, t1, t2, t3⟩
    obtain ⟨F1, hb1, hf1, hn1⟩ := (h1.tabled hF hi hts t1 t2 t3).of q
    have hsb : LSB w1 g F1 { S with T := upf S.T i (tpuR i (S.T i) (findI (S.T i) id) P) } := ⟨ls, lt, hb1, hI.row hW ha hf⟩
    refine ⟨_, rfl, hb1.inH, ?_⟩
    have hal : Below w1.heap.size w1 (w1.alloc (.cells #[.int .i64 id] 35)) := alloc_below _ _
    have haw : Aw F1 (some ⟨w1.heap.size, 0, none⟩) 1 := Or.inr (fun ad e c => by
      injection e with e
      rw [← e] at c
      obtain ⟨p', mb', ts', Lf', gv', lab', q1, q2⟩ := hb1
      have := q1.inb _ ((q2 _).1 c)
      exact Nat.lt_irrefl _ this)
    refine (ltouch_any (hsb.keep hal) _ 1 1 [id] (by omega) (row1 w1 id _) haw).mono ?_
    rintro e w2 ⟨rfl, hc⟩
    refine ⟨_, rfl, ?_⟩
    have hl : liveS { S with T := upf S.T i (tpuR i (S.T i) (findI (S.T i) id) P) } id = true := at_live hW ha
    have eS : toS { S with T := upf S.T i (tpuR i (S.T i) (findI (S.T i) id) P) } [id] = layS S id P := by
      show to1 { S with T := upf S.T i (tpuR i (S.T i) (findI (S.T i) id) P) } id = _
      unfold to1
      rw [if_pos hl, hLy]
      have eT : layTs S.T i id P = upf S.T i (tpuR i (S.T i) (findI (S.T i) id) P) := by unfold layTs; rw [← hk, if_pos hik]
      rw [eT]
    rw [eS] at hc
    exact Chg.joins hf1 hn1 (hc.of hal))
  have hcP : (pl P)[0]? = some (.int .i64 (k : Int)) := by rw [hkP]; rfl
  have HPX := Lib.hid (pxs P)
  have hFw : Hid (¬ F w.heap.size) := Lib.hid (fun c => by have := h.inb _ ((hF _).1 c); omega)
  have hg := h.row.lt
  obtain ⟨q, hq⟩ : ∃ q, q = findI (S.T i) id := ⟨_, rfl⟩
  rw [← hq] at HFi HPut
  obtain ⟨X, hX⟩ : ∃ X, X = pl P := ⟨_, rfl⟩
  rw [← hX] at HPX HRem HPut hcP ⊢
  have HCP := Lib.hid hcP
  have KX := Lib.hid (Blk.new w 44 X.toArray)
  have HB0 : Hid (Below w.heap.size w (w.alloc (.cells X.toArray 44))) := Lib.hid (alloc_below _ _)
  clear hX hq hcP hLy h hF hI ho hls hts hR hW hB ha hrt hk hkP
  go_enter Tryz.func87, Tryz.ntmps87
  go_wp2_with fail
  refine (HFi.out _ HB0.out).mono ?_
  rintro e w1 ⟨rfl, b1⟩
  replace KX := Lib.hid (Blk.keep KX.out b1)
  replace HB0 := Lib.hid (bthen HB0.out b1)
  clear b1
  have cx : w1.cell? ⟨w.heap.size, 0, none⟩ = some (.int .i64 (k : Int)) := by rw [KX.out.cell]; simpa using HCP.out
  have zx := KX.out.lt
  have HRg : Hid (w1.rangeAt w.heap.size 0 X) := Lib.hid (blk_whole KX.out)
  go_wp2
  go_quiet (first | (go_at_call 127; refine Calls.quiet_of_same (HSt.out _ (Go.below_drewN HB0.out _))))
  refine fin (fun W => Below w.heap.size w W ∧ Blk W w.heap.size 44 X.toArray) ⟨Go.below_drewN HB0.out _, Blk.drewN KX.out _⟩ ?_
  clear KX HB0 cx zx HRg
  rintro W ⟨hb, kx⟩
  have HB0 := Lib.hid hb
  have KX := Lib.hid kx
  have zx := kx.lt
  have zg : g < W.heap.size := Nat.lt_of_lt_of_le hg hb.size
  clear hb kx
  by_cases hik : i = k
  · subst hik
    replace HPut := Lib.hid (HPut.out rfl)
    clear HRem
    go_wp2_with (refine wpList_load_mid rfl 44 (.tmp 5) rfl w.heap.size 0 rfl X _ (blk_whole KX.out) Tryz.underlying44 rfl HPX.out.2.1 ?_)
    refine (HPut.out _ HB0.out).mono ?_
    rintro e w2 ⟨z, rfl, zg2, hto⟩
    have HTo := Lib.hid hto
    clear hto
    go_wp2_with fail
    refine HTo.out.mono ?_
    rintro e w3 ⟨z2, rfl, hc⟩
    have HC := Lib.hid hc
    clear hc
    go_wp2
    go_end0
    exact ⟨rfl, HC.out⟩
  · replace HRem := Lib.hid (HRem.out hik)
    have hne : decide ((k : Int) = (i : Int)) = false := decide_eq_false (by omega)
    clear HPut
    go_wp2_with fail
    refine (HRem.out _ HB0.out).mono ?_
    rintro e w2 ⟨rfl, hbk, hadd⟩
    have KX2 : Hid (Blk w2 w.heap.size 44 X.toArray) := Lib.hid (KX.out.same (hbk _ zx hFw.out))
    have HAdd := Lib.hid hadd
    have zx2 := KX2.out.lt
    clear hadd hbk
    go_wp2_with (refine wpList_load_mid rfl 44 (.tmp 5) rfl w.heap.size 0 rfl X _ (blk_whole KX2.out) Tryz.underlying44 rfl HPX.out.2.1 ?_)
    refine HAdd.out.mono ?_
    rintro e w3 ⟨rfl, hc⟩
    have HC := Lib.hid hc
    clear hc
    go_wp2
    exact bodyPost_ret (v := .tuple #[]) (results_none rfl _ _ _) rfl ⟨rfl, HC.out⟩

end Go.Proofs.YtcpgkkphibhdfaaGreat
