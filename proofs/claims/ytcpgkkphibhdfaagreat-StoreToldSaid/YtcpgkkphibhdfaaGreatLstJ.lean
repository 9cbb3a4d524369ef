/-
  The landed store: what Spawn, New, All, Tick and Next answer.
-/
import Derived.Test.YtcpgkkphibhdfaaGreatLstI
namespace Go.Proofs.YtcpgkkphibhdfaaGreat
open Go.RowKit

set_option maxHeartbeats 4000000 in
set_option maxRecDepth 100000 in
theorem lspawn_any {w : World} {g : Nat} {F : Nat → Prop} {S : St} (h0 : LSB w g F S) (hW : WS S) (hB : Bd S 1000) (P : PT) :
    Calls Tryz.prog 11 #[.pointer (some ⟨g, 0, none⟩), .agg (pl P).toArray] w fun e w' => e = .returned (.tuple #[.int .i64 (spV S P), .int .i64 (spE S P)]) ∧ Chg LSB w w' g F (spS S P) := by
  have H0 := Lib.hid h0
  have hg := h0.inH
  have HPX := Lib.hid (pxs P)
  obtain ⟨b, hb⟩ : ∃ b, b = rightT P := ⟨_, rfl⟩
  have HRi : Hid (∀ u, Calls Tryz.prog 38 #[.agg (pl P).toArray] u fun e w' => e = .returned (.bool b) ∧ Below u.heap.size u w') := Lib.hid (fun u => prightT hb.symm u)
  have HTk : Hid (b = true → ∀ u, Below w.heap.size w u → ∃ p, u.cell? ⟨g, 0, none⟩ = some (.pointer (some ⟨p, 0, none⟩)) ∧ Calls Tryz.prog 39 #[.pointer (some ⟨p, 0, none⟩)] u fun e w1 => e = .returned (.tuple #[.int .i64 (tkV S.G S.L S.room), .int .i64 (tkE S.G S.L S.room)]) ∧ (tkE S.G S.L S.room ≠ 0 → Chg LSB w w1 g F (spS S P)) ∧ (∀ b, b < u.heap.size → ¬ F b → w1.heap[b]? = u.heap[b]?) ∧
      (tkE S.G S.L S.room = 0 → Calls Tryz.prog 40 #[.pointer (some ⟨g, 0, none⟩), .int .i64 (tkV S.G S.L S.room), .agg (pl P).toArray] w1 fun e w2 => e = .returned (.tuple #[]) ∧ Chg LSB w w2 g F (spS S P))) := Lib.hid (fun hbt u q => by
    rw [hb] at hbt
    have hE : spE S P = tkE S.G S.L S.room := by unfold spE; rw [if_pos hbt]
    obtain ⟨ls, lt, ⟨p, mb, ts, Lf, gv, lab, h, hF⟩, hI⟩ := h0
    have h1 := h.keep q
    refine ⟨p, h1.c0, ?_⟩
    refine (qtake p S.room S.G S.L u hW.ok.1 hW.ok.gen h1.pool).mono ?_
    rintro e w1 ⟨rfl, hr, hgr⟩
    have hcm := h1.pooled hF hgr hr
    refine ⟨rfl, fun hne => ?_, fun b hbl hn => hcm.blk hbl hn, fun hz => ?_⟩
    · have hS : spS S P = S := by unfold spS; rw [if_neg (by rw [hE]; exact hne)]
      have hL : tkL S.G S.L S.room = S.L := by
        cases ht : tkI S.G S.L S.room with
        | none => exact (tk_none_v ht).2.2
        | some i => exact absurd (tk_some_v ht).2 hne
      rw [hL] at hcm
      rw [hS]
      exact LSB.of_cm (hcm.of q) hI
    · obtain ⟨hW', hd, hin⟩ := ws_spawn hW (P := P) (by rw [hE]; exact hz)
      have hV : spV S P = tkV S.G S.L S.room := by unfold spV; rw [if_pos (by rw [hE]; exact hz)]
      have hSS : spS S P = { S with L := tkL S.G S.L S.room, T := upf S.T P.1.toNat (tadR P.1 (S.T P.1.toNat) (tkV S.G S.L S.room) P), ch := markL S.ch (tkV S.G S.L S.room) S.now } := by unfold spS; rw [if_pos (by rw [hE]; exact hz)]
      rw [hV] at hin hd
      obtain ⟨k32, hkP, _, _⟩ := right_has hbt
      have hlv : liveS (spS S P) (tkV S.G S.L S.room) = true := (hW'.live _).2 ⟨P, (hin _ _).2 (Or.inr ⟨rfl, rfl⟩)⟩
      have hI' := hI.put hW hW' hin (by rw [hSS]) (by rw [hSS]) (by rw [hSS])
      obtain ⟨F1, hb1, hf1, hn1⟩ := hcm
      refine (ladd_any hb1 (tkV S.G S.L S.room) (live_ok hlv) P k32 hkP.symm (hB.2.2.1 _ k32)).mono ?_
      rintro e w2 ⟨rfl, hc⟩
      refine ⟨rfl, LSB.of_cm ?_ hI'⟩
      have hc2 := ((CM.join hf1 hn1 hc).of q).chs (markL S.ch (tkV S.G S.L S.room) S.now)
      rw [hSS]
      rw [hkP] at hc2
      exact hc2)
  have HV1 : Hid (b = false → spV S P = 0 ∧ spE S P = 1 ∧ spS S P = S) := Lib.hid (fun c => by
    have e1 : spE S P = 1 := by unfold spE; rw [← hb, c]; rfl
    refine ⟨by unfold spV; rw [e1]; rfl, e1, by unfold spS; rw [e1]; rfl⟩)
  have HV2 : Hid (b = true → spE S P = tkE S.G S.L S.room ∧ (tkE S.G S.L S.room = 0 → spV S P = tkV S.G S.L S.room) ∧ (tkE S.G S.L S.room ≠ 0 → spV S P = 0)) := Lib.hid (fun c => by
    have e1 : spE S P = tkE S.G S.L S.room := by unfold spE; rw [← hb, c]; rfl
    exact ⟨e1, fun z => by unfold spV; rw [e1, z]; rfl, fun z => by unfold spV; rw [e1, if_neg z]⟩)
  obtain ⟨X, hX⟩ : ∃ X, X = pl P := ⟨_, rfl⟩
  rw [← hX] at HPX HRi HTk ⊢
  obtain ⟨v, hv⟩ : ∃ v, v = tkV S.G S.L S.room := ⟨_, rfl⟩
  obtain ⟨E, hEE⟩ : ∃ E, E = tkE S.G S.L S.room := ⟨_, rfl⟩
  rw [← hv, ← hEE] at HTk HV2
  have KX := Lib.hid (Blk.new w 44 X.toArray)
  have HB0 : Hid (Below w.heap.size w (w.alloc (.cells X.toArray 44))) := Lib.hid (alloc_below _ _)
  have hFw : Hid (¬ F w.heap.size) := Lib.hid (by
    obtain ⟨ls, lt, ⟨p, mb, ts, Lf, gv, lab, h, hF⟩, hI⟩ := h0
    exact fun c => by have := h.inb _ ((hF _).1 c); omega)
  clear hX hb hv hEE h0 hW hB
  go_enter Tryz.func11, Tryz.ntmps11
  go_upto_region 1 with fail
  refine fin (fun W => Blk W w.heap.size 44 X.toArray ∧ Below w.heap.size w W) ⟨KX.out, HB0.out⟩ ?_
  clear KX HB0
  rintro W0 ⟨kx, hb0⟩
  have KX := Lib.hid kx
  have HB0 := Lib.hid hb0
  have zx := kx.lt
  have zg : g < W0.heap.size := Nat.lt_of_lt_of_le hg hb0.size
  clear kx hb0
  go_wp2_with (refine wpList_load_g rfl 44 (.tmp 3) rfl w.heap.size 0 rfl X _ (blk_whole KX.out) Tryz.underlying44 rfl HPX.out.2.1 ?_)
  refine (HRi.out _).mono ?_
  rintro e w1 ⟨rfl, b1⟩
  replace KX := Lib.hid (Blk.keep KX.out b1)
  replace HB0 := Lib.hid (bthen HB0.out b1)
  clear b1 zx zg
  have zx := KX.out.lt
  have zg : g < w1.heap.size := Nat.lt_of_lt_of_le hg HB0.out.size
  cases b with
  | false =>
    obtain ⟨v1, v2, v3⟩ := HV1.out rfl
    have V1 := Lib.hid v1
    have V2 := Lib.hid v2
    have V3 := Lib.hid v3
    clear v1 v2 v3 HTk HV2 HV1
    go_wp2
    go_ret2
    exact ⟨by rw [V1.out, V2.out]; rfl, by rw [V3.out]; exact LSB.still H0.out HB0.out⟩
  | true =>
    obtain ⟨v1, v2, v3⟩ := HV2.out rfl
    have V1 := Lib.hid v1
    have V2 := Lib.hid v2
    have V3 := Lib.hid v3
    obtain ⟨p, cp, hta⟩ := HTk.out rfl _ HB0.out
    have HTa := Lib.hid hta
    clear v1 v2 v3 HTk HV2 HV1 hta
    go_wp2_with fail
    refine HTa.out.mono ?_
    rintro e w2 ⟨rfl, hno, hblk, hadd⟩
    have HNo := Lib.hid hno
    have HAd := Lib.hid hadd
    replace KX := Lib.hid (KX.out.same (hblk _ zx hFw.out))
    clear hno hadd hblk zx zg cp HTa
    have zx := KX.out.lt
    by_cases hE : E = 0
    · replace HAd := Lib.hid (HAd.out hE)
      have V4 := Lib.hid (V2.out hE)
      have V5 := Lib.hid (V1.out.trans hE)
      clear V1 V2 V3 HNo
      subst hE
      go_wp2_with (refine wpList_load_mid rfl 44 (.tmp 3) rfl w.heap.size 0 rfl X _ (blk_whole KX.out) Tryz.underlying44 rfl HPX.out.2.1 ?_)
      refine HAd.out.mono ?_
      rintro e w3 ⟨rfl, hc⟩
      have HC := Lib.hid hc
      clear hc
      go_wp2
      go_ret2
      exact ⟨by rw [V4.out, V5.out]; rfl, HC.out⟩
    · have hne : (E != 0) = true := by simpa using hE
      have HC := Lib.hid (HNo.out hE)
      have V4 := Lib.hid (V3.out hE)
      clear V2 V3 HNo HAd
      go_wp2
      go_ret2
      exact ⟨by rw [V4.out, V1.out]; rfl, HC.out⟩

set_option maxHeartbeats 1000000 in
set_option maxRecDepth 100000 in
theorem lall_any {w : World} {g : Nat} {F : Nat → Prop} {S : St} (h0 : LSB w g F S) (hW : WS S) :
    Calls Tryz.prog 13 #[.pointer (some ⟨g, 0, none⟩)] w fun e w' => ∃ a cap, e = .returned (.slice a (alS S).length cap) ∧ Row w' a (alS S).length (alS S) ∧ Below w.heap.size w w' := by
  have hg := h0.inH
  obtain ⟨p, c0, _, hal⟩ := h0.live
  have HAl := Lib.hid (hal hW.ok)
  clear hal h0 hW
  go_enter Tryz.func13, Tryz.ntmps13
  go_wp2_with fail
  refine HAl.out.mono ?_
  rintro e w1 ⟨a, cap, rfl, hr, hb⟩
  have HR := Lib.hid (And.intro hr hb)
  clear hr hb
  go_wp2
  go_ret
  exact ⟨a, cap, rfl, HR.out.1, HR.out.2⟩
set_option maxHeartbeats 1000000 in
set_option maxRecDepth 100000 in
theorem ltick_any {w : World} {g : Nat} {F : Nat → Prop} {S : St} (h0 : LSB w g F S) :
    Calls Tryz.prog 17 #[.pointer (some ⟨g, 0, none⟩)] w fun e w' => e = .returned (.int .i64 S.now) ∧ Below w.heap.size w w' := by
  have hg := h0.inH
  obtain ⟨ls, lt, ⟨p, mb, ts, Lf, gv, lab, h, hF⟩, hI⟩ := h0
  have c2 := h.c2
  clear h hF hI
  go_enter Tryz.func17, Tryz.ntmps17
  go_wp2
  go_ret
  exact ⟨rfl, Below.refl _ _⟩
set_option maxHeartbeats 1000000 in
set_option maxRecDepth 100000 in
theorem lnext_any {w : World} {g : Nat} {F : Nat → Prop} {S : St} (h0 : LSB w g F S) (hB : Bd S 1000) :
    Calls Tryz.prog 18 #[.pointer (some ⟨g, 0, none⟩)] w fun e w' => e = .returned (.int .i64 (S.now + 1)) ∧ Chg LSB w w' g F (neS S) := by
  have hg := h0.inH
  obtain ⟨ls, lt, ⟨p, mb, ts, Lf, gv, lab, h, hF⟩, hI⟩ := h0
  have c2 := h.c2
  have f2 := h.row.frozen 2
  have hr := h.row.set 2 (.int .i64 (S.now + 1))
  have HC : Hid (Chg LSB w (w.setCell ⟨g, 2, none⟩ (.int .i64 (S.now + 1))) g F (neS S)) := Lib.hid (LSB.of_cm (LM.cells (F := F) h hF (now' := S.now + 1) (grown_set w g _ _) (hr.congr (fun j _ => lF_upNow _ j))) hI.ne)
  have hn0 : 0 < S.now := hB.2.2.2.1
  have hn1 : S.now ≤ 1001 := by have := hB.2.2.2.2.1; omega
  obtain ⟨nw, hnw⟩ : ∃ nw, nw = S.now := ⟨_, rfl⟩
  rw [← hnw] at c2 hn0 hn1 HC ⊢
  clear h hF hI hr hB hnw
  go_enter Tryz.func18, Tryz.ntmps18
  go_wp2
  go_ret
  exact ⟨rfl, HC.out⟩

end Go.Proofs.YtcpgkkphibhdfaaGreat
