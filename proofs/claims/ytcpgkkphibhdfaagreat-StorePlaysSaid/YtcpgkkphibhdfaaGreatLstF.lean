/-
  The landed store: what Touch answers.
-/
import Derived.Test.YtcpgkkphibhdfaaGreatLstE
namespace Go.Proofs.YtcpgkkphibhdfaaGreat
open Go.RowKit

/-- a number of the walk -/
def ivl : Value → Int
  | .int _ q => q
  | _ => 0
theorem live_to9 (S : St) (x y : Int) : liveS (to1 S x) y = liveS S y := by unfold to1; split <;> rfl
theorem live_tos9 : ∀ (l : List Int) (S : St) (y : Int), liveS (toS S l) y = liveS S y
  | [], _, _ => rfl
  | x :: l, S, y => by
    show liveS (toS (to1 S x) l) y = _
    rw [live_tos9 l, live_to9]
theorem tos_snoc9 {S : St} {xs : List Int} {k : Nat} {x : Int} (h : xs[k]? = some x) : toS S (xs.take (k + 1)) = to1 (toS S (xs.take k)) x := by
  unfold toS
  rw [List.take_add_one, h, List.foldl_append]
  rfl
theorem ton_snoc9 {S : St} {xs : List Int} {k : Nat} {x : Int} (h : xs[k]? = some x) : toN S (xs.take (k + 1)) = toN S (xs.take k) + (if liveS S x then 1 else 0) := by
  unfold toN
  rw [List.take_add_one, h, List.filter_append, List.length_append]
  by_cases c : liveS S x = true
  · simp [c]
  · simp [c]
theorem Chg.joins {w w1 w2 : World} {g : Nat} {F F1 : Nat → Prop} {S : St} (hf : Fr w w1 F) (hn : ∀ b, F1 b → F b ∨ w.heap.size ≤ b) (k : Chg LSB w1 w2 g F1 S) : Chg LSB w w2 g F S := by
  obtain ⟨F2, ⟨ls, lt, h1, hI⟩, h2, h3⟩ := k
  obtain ⟨F3, q1, q2, q3⟩ := CM.join hf hn ⟨F2, h1, h2, h3⟩
  exact ⟨F3, ⟨ls, lt, q1, hI⟩, q2, q3⟩
/-- a tick, written -/
theorem LSB.ticked {u : World} {g : Nat} {F : Nat → Prop} {S : St} (h : LSB u g F S) {id : Int} (hl : liveS S id = true) :
    ∃ k : Nat, k < 256 ∧ (∀ w', Calls Tryz.prog 48 #[.int .i64 id] w' fun e w'' => e = .returned (.int .i64 (k : Int)) ∧ w' = w'') ∧ u.cell? ⟨g, 2, none⟩ = some (.int .i64 S.now) ∧ (∃ v, u.cell? ⟨g, 3 + k * 2 + 1, none⟩ = some (.int .i64 v)) ∧ u.frozen? ⟨g, 3 + k * 2 + 1, none⟩ = false ∧
      (u.setCell ⟨g, 3 + k * 2 + 1, none⟩ (.int .i64 S.now)).drew.cell? ⟨g, 2, none⟩ = some (.int .i64 S.now) ∧ Chg LSB u (u.setCell ⟨g, 3 + k * 2 + 1, none⟩ (.int .i64 S.now)).drew g F (to1 S id) := by
  obtain ⟨ls, lt, ⟨p, mb, ts, Lf, gv, lab, h1, hF⟩, hI⟩ := h
  obtain ⟨k, hk, hk2, hix⟩ := ix_any (live_ok hl)
  have hr := h1.row.set (3 + k * 2 + 1) (.int .i64 S.now)
  refine ⟨k, hk, hix, h1.c2, ⟨_, h1.cT hk⟩, h1.row.frozen _, ?_, ?_⟩
  · rw [hr.drew.cell (by omega), if_neg (by omega)]; rfl
  · have hI2 := hI.mark_ hl
    rw [hk2] at hI2
    refine LSB.of_cm ?_ hI2
    have e : to1 S id = { S with ch := markL S.ch id S.now } := by unfold to1; rw [if_pos hl]
    rw [e]
    have hc := LM.cells (F := F) h1 hF (now' := S.now) (grown_set u g _ _) (ls' := ls) (lt' := upf lt k S.now) (hr.congr (fun j _ => lF_upTick hk _ j))
    obtain ⟨F', ⟨p', mb', ts', Lf', gv', lab', q1, q2⟩, q3, q4⟩ := hc.back (w2 := (u.setCell ⟨g, 3 + k * 2 + 1, none⟩ (.int .i64 S.now)).drew) (bdrewn (Below.refl _ _))
    exact ⟨F', ⟨p', mb', ts', Lf', gv', lab', ⟨q1.row, q1.pool, q1.map, q1.tab, q1.gos, q1.lg, q1.lp, q1.lm, q1.lv, q1.lT⟩, q2⟩, q3, q4⟩

set_option maxHeartbeats 4000000 in
set_option maxRecDepth 100000 in
theorem ltouch_any {w : World} {g : Nat} {F : Nat → Prop} {S : St} (h0 : LSB w g F S) (a : Option Addr) (n cap : Nat) (xs : List Int) (hn : n ≤ 1000) (row : Row w a n xs) (haw : Aw F a n) :
    Calls Tryz.prog 19 #[.pointer (some ⟨g, 0, none⟩), .slice a n cap] w fun e w' => e = .returned (.int .i64 (toN S xs : Nat)) ∧ Chg LSB w w' g F (toS S xs) := by
  have HRow := Lib.hid row
  have HAw := Lib.hid haw
  have HL := Lib.hid row.1
  have hbig := row.2.1
  have H0 := Lib.hid h0
  clear row haw h0
  go_enter Tryz.func19, Tryz.ntmps19
  go_wp2
  go_loopw [5, 12] (fun v5 i wr => ∃ k : Nat, k ≤ n ∧ i = .int .i64 k ∧ v5 = .int .i64 (toN S (xs.take k) : Nat) ∧ Chg LSB w wr g F (toS S (xs.take k))) (fun _ i _ => n - (ivl i).toNat)
  case atStart => exact ⟨0, by omega, rfl, rfl, LSB.still H0.out (Below.refl _ _)⟩
  case round =>
    obtain ⟨k, hk, rfl, rfl, hch⟩ := hrel
    obtain ⟨F1, hrb, hfr, hnew⟩ := hch
    have HRB := Lib.hid hrb
    have HFr := Lib.hid (And.intro hfr hnew)
    have hg : g < wr.heap.size := hrb.inH
    clear hfr hnew
    by_cases hlt : k < n
    · obtain ⟨b, off, x, rfl, hx, cx⟩ := row_at (row_frame HRow.out HAw.out HFr.out.1) hlt
      have hb := World.block_lt_of_cell? _ _ cx
      have k0 : (0 : Int) ≤ (k : Int) := by omega
      have k1 : (k : Int) < (n : Int) := by omega
      have HSn := Lib.hid (tos_snoc9 (S := S) hx)
      have HNn := Lib.hid (ton_snoc9 (S := S) hx)
      obtain ⟨p, cp, hlv, _⟩ := hrb.live
      have HLv := Lib.hid (hlv x)
      rw [live_tos9] at HLv
      obtain ⟨c, hc⟩ : ∃ c, c = toN S (xs.take k) := ⟨_, rfl⟩
      have hcl : c ≤ n := by rw [hc]; unfold toN; refine Nat.le_trans (List.length_filter_le _ _) ?_; rw [List.length_take]; omega
      rw [← hc] at HNn ⊢
      clear hlv hx hc hrb
      cases hlx : liveS S x with
      | false =>
        have e1 : Hid (toS S (xs.take (k + 1)) = toS S (xs.take k)) := Lib.hid (by rw [HSn.out]; unfold to1; rw [live_tos9, hlx]; rfl)
        rw [hlx] at HNn HLv
        clear hlx
        go_wp2_with fail
        refine HLv.out.mono ?_
        rintro e w1 ⟨rfl, b1⟩
        have HC : Hid (Chg LSB w w1 g F (toS S (xs.take k))) := Lib.hid (Chg.joins HFr.out.1 HFr.out.2 (LSB.still HRB.out b1))
        clear b1
        go_wp2
        go_roundw
        case rel => exact ⟨k + 1, by omega, by go_num, by rw [HNn.out]; rfl, by rw [e1.out]; exact HC.out⟩
        case measure => simp [ivl] <;> omega
      | true =>
        have hl2 : Hid (liveS (toS S (xs.take k)) x = true) := Lib.hid (by rw [live_tos9, hlx])
        rw [hlx] at HNn HLv
        clear hlx
        go_wp2_with fail
        refine HLv.out.mono ?_
        rintro e w1 ⟨rfl, b1⟩
        obtain ⟨j, hj, hix, c2, ⟨v, ct⟩, ft, c2', hcc⟩ := (HRB.out.keep b1).ticked hl2.out
        have HIx := Lib.hid hix
        have HC : Hid (Chg LSB w (w1.setCell ⟨g, 3 + j * 2 + 1, none⟩ (.int .i64 (toS S (xs.take k)).now)).drew g F (toS S (xs.take (k + 1)))) := Lib.hid (by
          rw [HSn.out]
          exact Chg.joins (Fr.behind HFr.out.1 b1) HFr.out.2 hcc)
        obtain ⟨now, hnow⟩ : ∃ now, now = (toS S (xs.take k)).now := ⟨_, rfl⟩
        rw [← hnow] at c2 c2' HC
        have hg1 : g < w1.heap.size := Nat.lt_of_lt_of_le hg b1.size
        have j0 : (0 : Int) ≤ (j : Int) := by omega
        have j1 : (j : Int) < 256 := by omega
        have HC2 := Lib.hid c2'
        clear b1 hcc hix hnow c2' cp cx
        go_wp2
        go_region_held3 (fun w' => w'.cell? ⟨g, 2, none⟩ = some (.int .i64 now)) (first | exact c2 | exact HC2.out | go_keep)
          (first | (go_at_call 48; refine (HIx.out _).mono ?_; rintro e w3 ⟨rfl, rfl⟩))
        refine fin (fun W => Chg LSB w W g F (toS S (xs.take (k + 1)))) HC.out ?_
        rintro W hcw
        have HCW := Lib.hid hcw
        clear hcw HC HC2 c2 ct ft
        go_wp2
        go_roundw
        case rel => exact ⟨k + 1, by omega, by go_num, by rw [HNn.out]; go_num, HCW.out⟩
        case measure => simp [ivl] <;> omega
    · obtain rfl : k = n := by omega
      have e0 : xs.take k = xs := List.take_of_length_le (by have := HL.out; omega)
      rw [e0] at HRB ⊢
      clear hrb
      go_wp2
      go_ret
      exact ⟨rfl, F1, HRB.out, HFr.out.1, HFr.out.2⟩

end Go.Proofs.YtcpgkkphibhdfaaGreat
