/-
  ShapeTells answers true for every slice of boxes, every matrix and every plane: package shape answers what the document says, or the error. No conditions.
-/
import Derived.Test.YthdgldoailjhhaaRows
import Derived.Test.YthdgldoailjhhaaShpR1
import Derived.Test.YthdgldoailjhhaaShpR2
import Derived.Test.YthdgldoailjhhaaShpR3
import Derived.Test.YthdgldoailjhhaaShpR4
import Derived.WalkKit
import Derived.ProofKit
import Derived.OpenShut
import Derived.ShutString
import Derived.ChangeOld
import Derived.Below
import Derived.Deep.Cut
import Derived.Deep.CutRange
namespace Go.Proofs.Ythdgldoailjhhaa.shapeTells
open Go.ChangeShapes Go.WideShapes Go.ChangeAt Go.RowKit
set_option linter.unusedVariables false

theorem own : ownKnob Try.prog.godebug = none := by kernel_rfl
theorem laidOut : laidOutB Try.prog = true := by kernel_rfl

set_option maxHeartbeats 400000 in
set_option maxRecDepth 100000 in
theorem walk_many (a : Option Addr) (len cap : Nat) (M P : Nat → Int) (w : World) (h : 60 < len) (hbig : len ≤ 9223372036854775807) :
    Calls Try.prog 3 #[.slice a len cap, .agg #[.int .i64 (M 0), .int .i64 (M 1), .int .i64 (M 2), .int .i64 (M 3), .int .i64 (M 4), .int .i64 (M 5), .int .i64 (M 6), .int .i64 (M 7), .int .i64 (M 8), .int .i64 (M 9), .int .i64 (M 10), .int .i64 (M 11)], .agg #[.int .i64 (P 0), .int .i64 (P 1), .int .i64 (P 2), .int .i64 (P 3)]] w fun e w' => e = .returned (.bool true) ∧ Below w.heap.size w w' := by
  go_enter Try.func3, Try.ntmps3
  go_wp2_with fail
  refine (shalive_any _).mono ?_
  rintro e w1 ⟨rfl, b1⟩
  have B1 := Lib.hid (bthen (balloc (alloc_below _ _) _) b1)
  clear b1
  go_wp2
  go_ret
  exact ⟨rfl, B1.out⟩

theorem rightBx_take {Bs : List (Nat → Int)} {k : Nat} {N : Nat → Int} (h : Bs[k]? = some N) : rightBx (Bs.take (k + 1)) = (rightBx (Bs.take k) && okBox N) := by
  unfold rightBx
  rw [List.take_add_one, List.all_append, h]
  simp

set_option maxHeartbeats 8000000 in
set_option maxRecDepth 100000 in
theorem walk_few (a : Option Addr) (len cap : Nat) (Bs : List (Nat → Int)) (M P : Nat → Int) (w : World) (h : len ≤ 60) (row : BRow w a len Bs) (hcap : len ≤ cap) (hbig : cap ≤ 9223372036854775807) :
    Calls Try.prog 3 #[.slice a len cap, .agg #[.int .i64 (M 0), .int .i64 (M 1), .int .i64 (M 2), .int .i64 (M 3), .int .i64 (M 4), .int .i64 (M 5), .int .i64 (M 6), .int .i64 (M 7), .int .i64 (M 8), .int .i64 (M 9), .int .i64 (M 10), .int .i64 (M 11)], .agg #[.int .i64 (P 0), .int .i64 (P 1), .int .i64 (P 2), .int .i64 (P 3)]] w fun e w' => e = .returned (.bool true) ∧ Below w.heap.size w w' := by
  have HL := Lib.hid row.1
  have HRow := Lib.hid row
  clear row
  go_enter Try.func3, Try.ntmps3
  go_wp2
  go_loopw [7, 8] (fun r i wr => ∃ k : Nat, k ≤ len ∧ i = .int .i64 k ∧ r = .bool (rightBx (Bs.take k)) ∧ BM wr w.heap.size M ∧ Blk wr (w.heap.size + 1) 29 #[.int .i64 (P 0), .int .i64 (P 1), .int .i64 (P 2), .int .i64 (P 3)] ∧ Below w.heap.size w wr) (fun _ i _ => len - (intOf i).toNat)
  case atStart => exact ⟨0, by omega, rfl, rfl, (Blk.new w _ _).alloc _, blkAt (Blk.new (w.alloc _) _ _) (by simp), balloc (alloc_below _ _) _⟩
  case round =>
    obtain ⟨k, hk, rfl, rfl, hm, hv, hb⟩ := hrel
    have HM := Lib.hid hm
    have HP := Lib.hid hv
    have HB := Lib.hid hb
    clear hm hv hb
    by_cases hlt : k < len
    · obtain ⟨b, off, N, rfl, hn, m0, m1, m2, m3, m4, m5⟩ := (brow_keep HRow.out HB.out).at_ hlt
      have HN := Lib.hid (rightBx_take hn)
      clear hn
      go_wp2_with fail
      refine (rbox_any N _).mono ?_
      rintro e w1 ⟨rfl, b1⟩
      have HM2 := Lib.hid (Blk.keep HM.out b1)
      have HP2 := Lib.hid (Blk.keep HP.out b1)
      have HB2 := Lib.hid (bthen HB.out b1)
      clear b1 HM HP HB m0 m1 m2 m3 m4 m5
      obtain ⟨s, hs⟩ : ∃ s, s = rightBx (Bs.take k) := ⟨_, rfl⟩
      obtain ⟨o, ho⟩ : ∃ o, o = okBox N := ⟨_, rfl⟩
      rw [← hs, ← ho] at HN
      rw [← hs, ← ho]
      clear hs ho
      cases s
      · go_wp2
        go_roundw
        case rel => exact ⟨k + 1, by omega, by go_num, by rw [HN.out]; rfl, HM2.out, HP2.out, HB2.out⟩
        case measure => simp [intOf] <;> omega
      · go_wp2
        go_roundw
        case rel => exact ⟨k + 1, by omega, by go_num, by rw [HN.out]; rfl, HM2.out, HP2.out, HB2.out⟩
        case measure => simp [intOf] <;> omega
    · have e1 : Bs.take k = Bs := List.take_of_length_le (by rw [HL.out]; omega)
      rw [e1]
      clear e1
      go_wp2_with fail
      refine (shjoin_any a len cap Bs _ hcap hbig (brow_keep HRow.out HB.out)).mono ?_
      rintro e w1 ⟨rfl, b1⟩
      replace HM := Lib.hid (Blk.keep HM.out b1)
      replace HP := Lib.hid (Blk.keep HP.out b1)
      replace HB := Lib.hid (bthen HB.out b1)
      clear b1
      go_wp2_with fail
      refine (rjoin_any a len cap Bs _ (by omega) (brow_keep HRow.out (balloc HB.out _))).mono ?_
      rintro e w2 ⟨rfl, b2⟩
      have KJ := Lib.hid ((Blk.new w1 33 #[.int .i64 (joinV Bs 0), .int .i64 (joinV Bs 1), .int .i64 (joinV Bs 2), .int .i64 (joinV Bs 3), .int .i64 (joinV Bs 4), .int .i64 (joinV Bs 5)]).keep b2)
      replace HM := Lib.hid (Blk.keep (Blk.alloc HM.out _) b2)
      replace HP := Lib.hid (Blk.keep (Blk.alloc HP.out _) b2)
      replace HB := Lib.hid (bthen (balloc HB.out _) b2)
      clear b2
      go_upto_region 11 with fail
      refine fin (fun W => BM W w.heap.size M ∧ Blk W (w.heap.size + 1) 29 #[.int .i64 (P 0), .int .i64 (P 1), .int .i64 (P 2), .int .i64 (P 3)] ∧ Blk W w1.heap.size 33 #[.int .i64 (joinV Bs 0), .int .i64 (joinV Bs 1), .int .i64 (joinV Bs 2), .int .i64 (joinV Bs 3), .int .i64 (joinV Bs 4), .int .i64 (joinV Bs 5)] ∧ Blk W w2.heap.size 33 #[.int .i64 (joinV Bs 0), .int .i64 (joinV Bs 1), .int .i64 (joinV Bs 2), .int .i64 (joinV Bs 3), .int .i64 (joinV Bs 4), .int .i64 (joinV Bs 5)] ∧ Below w.heap.size w W) ⟨Blk.alloc HM.out _, HP.out.alloc _, KJ.out.alloc _, Blk.new _ _ _, balloc HB.out _⟩ ?_
      clear HM HP KJ HB
      rintro w3 ⟨hm, hp, hj, hj2, hb⟩
      have HM := Lib.hid hm
      have HP := Lib.hid hp
      have KJ := Lib.hid hj
      have KJ2 := Lib.hid hj2
      have HB := Lib.hid hb
      clear hm hp hj hj2 hb
      refine shreg11 (fun w' hb => ⟨(Blk.keep KJ.out hb).cell 0, (Blk.keep KJ.out hb).cell 1, (Blk.keep KJ.out hb).cell 2, (Blk.keep KJ.out hb).cell 3, (Blk.keep KJ.out hb).cell 4, (Blk.keep KJ.out hb).cell 5, (Blk.keep KJ2.out hb).cell 0, (Blk.keep KJ2.out hb).cell 1, (Blk.keep KJ2.out hb).cell 2, (Blk.keep KJ2.out hb).cell 3, (Blk.keep KJ2.out hb).cell 4, (Blk.keep KJ2.out hb).cell 5, (Blk.keep HP.out hb).cell 0, (Blk.keep HP.out hb).cell 1, (Blk.keep HP.out hb).cell 2, (Blk.keep HP.out hb).cell 3⟩) (fun w' hb => shright_any a len cap Bs w' (brow_keep HRow.out (bthen HB.out hb))) rfl (fun gs w4 hb => ?_)
      replace HM := Lib.hid (Blk.keep HM.out hb)
      replace HP := Lib.hid (Blk.keep HP.out hb)
      replace HB := Lib.hid (bthen HB.out hb)
      clear hb KJ KJ2
      go_wp2
      go_loopw [14, 15, 17] (fun i _ _ wr => ∃ k : Nat, k ≤ len ∧ i = .int .i64 k ∧ BM wr w.heap.size M ∧ Blk wr (w.heap.size + 1) 29 #[.int .i64 (P 0), .int .i64 (P 1), .int .i64 (P 2), .int .i64 (P 3)] ∧ Below w.heap.size w wr) (fun i _ _ _ => len - (intOf i).toNat)
      case atStart => exact ⟨0, by omega, rfl, HM.out, HP.out, HB.out⟩
      case round =>
        clear HM HP HB
        obtain ⟨k, hk, rfl, hm, hp, hb⟩ := hrel
        have HM := Lib.hid hm
        have HP := Lib.hid hp
        have HB := Lib.hid hb
        clear hm hp hb
        by_cases hlt : k < len
        · obtain ⟨b, off, B, rfl, hn, m0, m1, m2, m3, m4, m5⟩ := (brow_keep HRow.out HB.out).at_ hlt
          clear hn
          have hk0 : (0 : Int) ≤ (k : Int) := by omega
          have hk1 : (k : Int) < (len : Int) := by omega
          have HE : Hid (∀ w', Below wr.heap.size wr w' → (w'.cell? ⟨b, off + k * 6, none⟩ = some (.int .i64 (B 0)) ∧ w'.cell? ⟨b, off + k * 6 + 1, none⟩ = some (.int .i64 (B 1)) ∧ w'.cell? ⟨b, off + k * 6 + 2, none⟩ = some (.int .i64 (B 2)) ∧ w'.cell? ⟨b, off + k * 6 + 3, none⟩ = some (.int .i64 (B 3)) ∧ w'.cell? ⟨b, off + k * 6 + 4, none⟩ = some (.int .i64 (B 4)) ∧ w'.cell? ⟨b, off + k * 6 + 5, none⟩ = some (.int .i64 (B 5)))) := Lib.hid (fun w' hb => ⟨cell_keep m0 (hb), cell_keep m1 (hb), cell_keep m2 (hb), cell_keep m3 (hb), cell_keep m4 (hb), cell_keep m5 (hb)⟩)
          clear m0 m1 m2 m3 m4 m5
          go_upto_region 16 with fail
          refine shreg16 (fun _ _ d _ _ h => by cases d <;> exact h) hk0 hk1 (fun w' hb => ⟨rangeM (Blk.keep HM.out hb), HE.out _ hb⟩) (fun w' => shcarry_any M B w') (fun g1 y1 kx hb => ?_)
          have KC := Lib.hid kx
          have HR := Lib.hid hb
          clear kx hb
          go_upto_region 17 with fail
          refine shreg17 (fun _ _ d _ _ h => by cases d <;> exact h) hk0 hk1 (fun w' hb => ⟨rangeM (Blk.keep HM.out (bthen HR.out hb)), HE.out _ (bthen HR.out hb)⟩) (fun w' => rcarry_any M B w') (fun g2 y2 kx hb => ?_)
          have KD := Lib.hid kx
          replace KC := Lib.hid (Blk.keep KC.out hb)
          replace HR := Lib.hid (bthen HR.out hb)
          clear kx hb
          go_upto_region 18 with fail
          refine shreg18 hk0 hk1 (fun w' hb => ⟨(Blk.keep HP.out (bthen HR.out hb)).cell 0, (Blk.keep HP.out (bthen HR.out hb)).cell 1, (Blk.keep HP.out (bthen HR.out hb)).cell 2, (Blk.keep HP.out (bthen HR.out hb)).cell 3, HE.out _ (bthen HR.out hb)⟩) (fun w' => shspan_any P B w') (fun y3 hb => ?_)
          replace KC := Lib.hid (Blk.keep KC.out hb)
          replace KD := Lib.hid (Blk.keep KD.out hb)
          replace HR := Lib.hid (bthen HR.out hb)
          clear hb
          go_upto_region 19 with fail
          refine shreg19 hk0 hk1 (fun w' hb => ⟨(Blk.keep HP.out (bthen HR.out hb)).cell 0, (Blk.keep HP.out (bthen HR.out hb)).cell 1, (Blk.keep HP.out (bthen HR.out hb)).cell 2, (Blk.keep HP.out (bthen HR.out hb)).cell 3, HE.out _ (bthen HR.out hb)⟩) (fun w' => rspan_any P B w') (fun y4 hb => ?_)
          replace KC := Lib.hid (Blk.keep KC.out hb)
          replace KD := Lib.hid (Blk.keep KD.out hb)
          replace HR := Lib.hid (bthen HR.out hb)
          clear hb
          go_upto_region 20 with fail
          refine shreg20 hk0 hk1 (fun w' hb => ⟨(Blk.keep KC.out hb).cell 0, (Blk.keep KC.out hb).cell 1, (Blk.keep KC.out hb).cell 2, (Blk.keep KC.out hb).cell 3, (Blk.keep KC.out hb).cell 4, (Blk.keep KC.out hb).cell 5, (Blk.keep KD.out hb).cell 0, (Blk.keep KD.out hb).cell 1, (Blk.keep KD.out hb).cell 2, (Blk.keep KD.out hb).cell 3, (Blk.keep KD.out hb).cell 4, (Blk.keep KD.out hb).cell 5, (Blk.keep HP.out (bthen HR.out hb)).cell 0, (Blk.keep HP.out (bthen HR.out hb)).cell 1, (Blk.keep HP.out (bthen HR.out hb)).cell 2, HE.out _ (bthen HR.out hb)⟩) (fun w' => shin_any B P w') (fun w' => rin_any B P w') (fun y5 hb => ?_)
          replace HR := Lib.hid (bthen HR.out hb)
          clear hb KC KD
          go_upto_region 22 with fail
          refine shreg22 hk0 hk1 (fun w' hb => ⟨(Blk.keep HP.out (bthen HR.out hb)).cell 0, (Blk.keep HP.out (bthen HR.out hb)).cell 1, (Blk.keep HP.out (bthen HR.out hb)).cell 2, (Blk.keep HP.out (bthen HR.out hb)).cell 3, HE.out _ (bthen HR.out hb)⟩) (fun w' => shdist_any P (upB B) w') (fun y6 hb => ?_)
          replace HR := Lib.hid (bthen HR.out hb)
          clear hb
          go_upto_region 23 with fail
          refine shreg23 hk0 hk1 (fun w' hb => ⟨(Blk.keep HP.out (bthen HR.out hb)).cell 0, (Blk.keep HP.out (bthen HR.out hb)).cell 1, (Blk.keep HP.out (bthen HR.out hb)).cell 2, (Blk.keep HP.out (bthen HR.out hb)).cell 3, HE.out _ (bthen HR.out hb)⟩) (fun w' => rdist_any P (upB B) w') (fun y7 hb => ?_)
          replace HR := Lib.hid (bthen HR.out hb)
          clear hb
          replace HM := Lib.hid (Blk.keep HM.out HR.out)
          replace HP := Lib.hid (Blk.keep HP.out HR.out)
          replace HB := Lib.hid (bthen HB.out HR.out)
          clear HR HE
          go_wp2
          go_roundw
          case rel => exact ⟨k + 1, by omega, by go_num, HM.out, HP.out, HB.out⟩
          case measure => simp [intOf] <;> omega
        · go_wp2_with fail
          refine (shalive_any _).mono ?_
          rintro e w5 ⟨rfl, b5⟩
          replace HB := Lib.hid (bthen HB.out b5)
          clear b5
          go_wp2
          go_ret
          exact ⟨rfl, HB.out⟩

theorem walk (a : Option Addr) (len cap : Nat) (Bs : List (Nat → Int)) (M P : Nat → Int) (w : World) (row : BRow w a len Bs) (hcap : len ≤ cap) (hbig : cap ≤ 9223372036854775807) :
    Calls Try.prog 3 #[.slice a len cap, .agg #[.int .i64 (M 0), .int .i64 (M 1), .int .i64 (M 2), .int .i64 (M 3), .int .i64 (M 4), .int .i64 (M 5), .int .i64 (M 6), .int .i64 (M 7), .int .i64 (M 8), .int .i64 (M 9), .int .i64 (M 10), .int .i64 (M 11)], .agg #[.int .i64 (P 0), .int .i64 (P 1), .int .i64 (P 2), .int .i64 (P 3)]] w fun e w' => e = .returned (.bool true) ∧ Below w.heap.size w w' := by
  by_cases h : 60 < len
  · exact walk_many a len cap M P w h row.2.1
  · exact walk_few a len cap Bs M P w (by omega) row hcap hbig

set_option maxRecDepth 100000 in
theorem lifted (os : Os) (started : os.Started) (H : Type) (enc : TypeId × Value → H) :
    ReturnsInHanded {} Try.checked os 3 .any (Rows.shapeTellsSpec.pre6 enc Try.prog Try.f3 Rows.shapeTellsRow.domain false) (Rows.shapeTellsSpec.post enc Try.prog Try.f3 false true false false) := by
  refine returnsInHanded_of_change (C := Try.checked) own started (by kernel_rfl) Try.func3
    (ChangeSpec.witness6 (enc := enc) (C := Try.checked) false ⟨#[], #[.slice none 0 0, .agg #[.int .i64 0, .int .i64 0, .int .i64 0, .int .i64 0, .int .i64 0, .int .i64 0, .int .i64 0, .int .i64 0, .int .i64 0, .int .i64 0, .int .i64 0, .int .i64 0], .agg #[.int .i64 0, .int .i64 0, .int .i64 0, .int .i64 0]], []⟩ 8 (by kernel_rfl) (by kernel_rfl) (by kernel_rfl) (by kernel_rfl)) ?_
  intro W base args ds gs before hval0 hW hcnd _
  have hval : ∀ (j : Nat) t v, Try.f3.params[j]? = some t → args[j]? = some v → Value.okWide Try.prog W .any base t v := hval0
  have hW' := hW
  obtain ⟨p, q, hA0, hV, rfl, hfz, hnd⟩ := hW
  have hA : DataW.TrodAll enc Try.prog W 0 (fun _ => true) true Try.f3.params.toList args.toList ds p := hA0
  rw [Try.params3] at hA hval
  obtain ⟨v0, vs0, d0, ds0, p0, q0, hargs, rfl, rfl, h0, r0⟩ := trodAll_cons hA
  obtain ⟨v1, vs1, d1, ds1, p1, q1, rfl, rfl, rfl, h1, r1⟩ := trodAll_cons r0
  obtain ⟨v2, vs2, d2, ds2, p2, q2, rfl, rfl, rfl, h2, r2⟩ := trodAll_cons r1
  obtain ⟨rfl, rfl, rfl⟩ := trodAll_nil r2
  obtain rfl : args = #[v0, v1, v2] := by cases args; simp_all
  obtain ⟨rfl, rfl⟩ := trodVars_none hV
  obtain ⟨a0, len0, cap0, rfl⟩ := okWide_slice Try.underlying22 (hval 0 22 v0 rfl rfl)
  have k0 := h0
  have lt0 : ∀ x ∈ p0, x.block < W.heap.size := by obtain ⟨m, hm⟩ := k0; exact DataW.trod_lt m _ _ _ hm
  obtain ⟨Bs, row, hcap, hbig⟩ : ∃ Bs, BRow W a0 len0 Bs ∧ len0 ≤ cap0 ∧ cap0 ≤ 9223372036854775807 := by
    obtain ⟨fuel, hf⟩ := h0
    exact open_boxes (by simpa [Value.cells] using hf)
  have k1 := h1
  have lt1 : ∀ x ∈ p1, x.block < W.heap.size := by obtain ⟨m, hm⟩ := k1; exact DataW.trod_lt m _ _ _ hm
  obtain ⟨M, rfl⟩ := open_mat (hval 1 25 v1 rfl rfl) h1
  have k2 := h2
  have lt2 : ∀ x ∈ p2, x.block < W.heap.size := by obtain ⟨m, hm⟩ := k2; exact DataW.trod_lt m _ _ _ hm
  obtain ⟨P, rfl⟩ := open_plane (hval 2 29 v2 rfl rfl) h2
  clear hA0 hval0
  refine (walk a0 len0 cap0 Bs M P W row hcap hbig).mono fun e W' ⟨he, bel⟩ => ?_
  subst he
  exact ⟨_, rfl, _, _, _, [], _, [], hW', trodAll_mk1 (shut_bool Try.underlying4 _), (trodAll_cons_mk (Below.trod laidOut (by kernel_rfl) (of_decide_eq_true (by kernel_rfl)) k0 bel lt0) (trodAll_cons_mk (Below.trod laidOut (by kernel_rfl) (of_decide_eq_true (by kernel_rfl)) k1 bel lt1) (trodAll_cons_mk (Below.trod laidOut (by kernel_rfl) (of_decide_eq_true (by kernel_rfl)) k2 bel lt2) trodAll_mk0))), rfl, bel.frame _, fun h => by cases h⟩

theorem over : Rows.shapeTellsRow.holds Try.pinned (OpenSpec.ofChange Rows.shapeTellsSpec) :=
  OpenClaim.holds_of_wide 3 Try.f3 rfl rfl rfl rfl rfl rfl rfl ⟨rfl, rfl, rfl, rfl, rfl⟩ rfl rfl rfl rfl rfl (by kernel_rfl) Try.func3 (by kernel_rfl)
    (of_decide_eq_true (by kernel_rfl)) (by unfold Func.isWrapper; first | (rw [if_pos (by decide +kernel)]; kernel_rfl) | (rw [if_neg (by decide +kernel)]; exact ⟨rfl, rfl⟩))
    (fun os started H enc _ => lifted os started H enc)

end Go.Proofs.Ythdgldoailjhhaa.shapeTells
namespace Go.Proofs.Ythdgldoailjhhaa
theorem shapeTells_holds : Rows.ShapeTellsSaid := shapeTells.over
#print axioms shapeTells_holds
end Go.Proofs.Ythdgldoailjhhaa
