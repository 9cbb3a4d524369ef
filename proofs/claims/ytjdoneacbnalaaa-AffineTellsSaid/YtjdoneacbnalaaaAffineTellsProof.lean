/-
  AffineTells answers true for every slice of matrices, every matrix and every vector: package affine answers what the document says, or the error. No conditions.
-/
import Derived.Test.YtjdoneacbnalaaaRows
import Derived.Test.YtjdoneacbnalaaaAffN
import Derived.WalkKit
import Derived.ProofKit
import Derived.OpenShut
import Derived.ShutString
import Derived.ChangeOld
import Derived.Below
namespace Go.Proofs.Ytjdoneacbnalaaa.affineTells
open Go.ChangeShapes Go.WideShapes Go.ChangeAt Go.RowKit
set_option linter.unusedVariables false

theorem own : ownKnob Try.prog.godebug = none := by kernel_rfl
theorem laidOut : laidOutB Try.prog = true := by kernel_rfl

set_option maxHeartbeats 400000 in
set_option maxRecDepth 100000 in
theorem walk_many (a : Option Addr) (len cap : Nat) (M V : Nat → Int) (w : World) (h : 60 < len) (hbig : len ≤ 9223372036854775807) :
    Calls Try.prog 3 #[.slice a len cap, .agg #[.int .i64 (M 0), .int .i64 (M 1), .int .i64 (M 2), .int .i64 (M 3), .int .i64 (M 4), .int .i64 (M 5), .int .i64 (M 6), .int .i64 (M 7), .int .i64 (M 8), .int .i64 (M 9), .int .i64 (M 10), .int .i64 (M 11)], .agg #[.int .i64 (V 0), .int .i64 (V 1), .int .i64 (V 2)]] w fun e w' => e = .returned (.bool true) ∧ Below w.heap.size w w' := by
  go_enter Try.func3, Try.ntmps3
  go_wp2_with fail
  refine (aalive_any _).mono ?_
  rintro e w1 ⟨rfl, b1⟩
  have B1 := Lib.hid (bthen (balloc (alloc_below _ _) _) b1)
  clear b1
  go_wp2
  go_ret
  exact ⟨rfl, B1.out⟩

theorem rightM_take {Ms : List (Nat → Int)} {k : Nat} {N : Nat → Int} (h : Ms[k]? = some N) : rightM (Ms.take (k + 1)) = (rightM (Ms.take k) && okM N) := by
  unfold rightM
  rw [List.take_add_one, List.all_append, h]
  simp

set_option maxHeartbeats 4000000 in
set_option maxRecDepth 100000 in
theorem walk_few (a : Option Addr) (len cap : Nat) (Ms : List (Nat → Int)) (M V P Z : Nat → Int) (pE zE : Int) (w : World) (h : len ≤ 60) (row : MRow w a len Ms)
    (h1 : ∀ w', MRow w' a len Ms → Calls Try.prog 8 #[.slice a len cap] w' fun e w'' => e = .returned (.tuple #[.agg #[.int .i64 (P 0), .int .i64 (P 1), .int .i64 (P 2), .int .i64 (P 3), .int .i64 (P 4), .int .i64 (P 5), .int .i64 (P 6), .int .i64 (P 7), .int .i64 (P 8), .int .i64 (P 9), .int .i64 (P 10), .int .i64 (P 11)], .int .i64 pE]) ∧ Below w'.heap.size w' w'')
    (h2 : ∀ w', MRow w' a len Ms → Calls Try.prog 9 #[.slice a len cap] w' fun e w'' => e = .returned (.tuple #[.agg #[.int .i64 (P 0), .int .i64 (P 1), .int .i64 (P 2), .int .i64 (P 3), .int .i64 (P 4), .int .i64 (P 5), .int .i64 (P 6), .int .i64 (P 7), .int .i64 (P 8), .int .i64 (P 9), .int .i64 (P 10), .int .i64 (P 11)], .int .i64 pE]) ∧ Below w'.heap.size w' w'')
    (h3 : ∀ w', Calls Try.prog 10 #[.agg #[.int .i64 (M 0), .int .i64 (M 1), .int .i64 (M 2), .int .i64 (M 3), .int .i64 (M 4), .int .i64 (M 5), .int .i64 (M 6), .int .i64 (M 7), .int .i64 (M 8), .int .i64 (M 9), .int .i64 (M 10), .int .i64 (M 11)], .agg #[.int .i64 (V 0), .int .i64 (V 1), .int .i64 (V 2)]] w' fun e w'' => e = .returned (.tuple #[.agg #[.int .i64 (Z 0), .int .i64 (Z 1), .int .i64 (Z 2)], .int .i64 zE]) ∧ Below w'.heap.size w' w'')
    (h4 : ∀ w', Calls Try.prog 11 #[.agg #[.int .i64 (M 0), .int .i64 (M 1), .int .i64 (M 2), .int .i64 (M 3), .int .i64 (M 4), .int .i64 (M 5), .int .i64 (M 6), .int .i64 (M 7), .int .i64 (M 8), .int .i64 (M 9), .int .i64 (M 10), .int .i64 (M 11)], .agg #[.int .i64 (V 0), .int .i64 (V 1), .int .i64 (V 2)]] w' fun e w'' => e = .returned (.tuple #[.agg #[.int .i64 (Z 0), .int .i64 (Z 1), .int .i64 (Z 2)], .int .i64 zE]) ∧ Below w'.heap.size w' w'')
    (h5 : ∀ w', MRow w' a len Ms → Calls Try.prog 12 #[.slice a len cap] w' fun e w'' => e = .returned (.bool (rightM Ms)) ∧ Below w'.heap.size w' w'') :
    Calls Try.prog 3 #[.slice a len cap, .agg #[.int .i64 (M 0), .int .i64 (M 1), .int .i64 (M 2), .int .i64 (M 3), .int .i64 (M 4), .int .i64 (M 5), .int .i64 (M 6), .int .i64 (M 7), .int .i64 (M 8), .int .i64 (M 9), .int .i64 (M 10), .int .i64 (M 11)], .agg #[.int .i64 (V 0), .int .i64 (V 1), .int .i64 (V 2)]] w fun e w' => e = .returned (.bool true) ∧ Below w.heap.size w w' := by
  have HL := Lib.hid row.1
  have HRow := Lib.hid row
  have Hh1 := Lib.hid h1
  have Hh2 := Lib.hid h2
  have Hh3 := Lib.hid h3
  have Hh4 := Lib.hid h4
  have Hh5 := Lib.hid h5
  clear row h1 h2 h3 h4 h5
  go_enter Try.func3, Try.ntmps3
  go_wp2
  go_loopw [7, 8] (fun r i wr => ∃ k : Nat, k ≤ len ∧ i = .int .i64 k ∧ r = .bool (rightM (Ms.take k)) ∧ BM wr w.heap.size M ∧ BV3 wr (w.heap.size + 1) V ∧ Below w.heap.size w wr) (fun _ i _ => len - (intOf i).toNat)
  case atStart => exact ⟨0, by omega, rfl, rfl, (Blk.new w _ _).alloc _, blkAt (Blk.new (w.alloc _) _ _) (by simp), balloc (alloc_below _ _) _⟩
  case round =>
    obtain ⟨k, hk, rfl, rfl, hm, hv, hb⟩ := hrel
    have HM := Lib.hid hm
    have HV := Lib.hid hv
    have HB := Lib.hid hb
    clear hm hv hb
    by_cases hlt : k < len
    · obtain ⟨b, off, N, rfl, hn, m0, m1, m2, m3, m4, m5, m6, m7, m8, m9, m10, m11⟩ := (mrow_keep HRow.out HB.out).at_ hlt
      have HN := Lib.hid (rightM_take hn)
      clear hn
      go_wp2_with fail
      refine (rmright_any N _).mono ?_
      rintro e w1 ⟨rfl, b1⟩
      have HM2 := Lib.hid (Blk.keep HM.out b1)
      have HV2 := Lib.hid (Blk.keep HV.out b1)
      have HB2 := Lib.hid (bthen HB.out b1)
      clear b1 HM HV HB m0 m1 m2 m3 m4 m5 m6 m7 m8 m9 m10 m11
      obtain ⟨s, hs⟩ : ∃ s, s = rightM (Ms.take k) := ⟨_, rfl⟩
      obtain ⟨o, ho⟩ : ∃ o, o = okM N := ⟨_, rfl⟩
      rw [← hs, ← ho] at HN
      rw [← hs, ← ho]
      clear hs ho
      cases s
      · go_wp2
        go_roundw
        case rel => exact ⟨k + 1, by omega, by go_num, by rw [HN.out]; rfl, HM2.out, HV2.out, HB2.out⟩
        case measure => simp [intOf] <;> omega
      · go_wp2
        go_roundw
        case rel => exact ⟨k + 1, by omega, by go_num, by rw [HN.out]; rfl, HM2.out, HV2.out, HB2.out⟩
        case measure => simp [intOf] <;> omega
    · have e1 : Ms.take k = Ms := List.take_of_length_le (by rw [HL.out]; omega)
      rw [e1]
      clear e1
      obtain ⟨s, hs⟩ : ∃ s, s = rightM Ms := ⟨_, rfl⟩
      rw [← hs]
      rw [← hs] at Hh5
      clear hs
      have heq := eqVec
      have heqM := eqMat
      go_wp2_with fail
      refine (Hh1.out _ (mrow_keep HRow.out HB.out)).mono ?_
      rintro e w1 ⟨rfl, b1⟩
      replace HM := Lib.hid (Blk.keep HM.out b1)
      replace HV := Lib.hid (Blk.keep HV.out b1)
      replace HB := Lib.hid (bthen HB.out b1)
      clear b1
      go_wp2_with fail
      refine (Hh2.out _ (mrow_keep HRow.out (balloc HB.out _))).mono ?_
      rintro e w2 ⟨rfl, b2⟩
      have KA := Lib.hid ((Blk.new w1 25 _).keep b2)
      replace HM := Lib.hid (Blk.keep (Blk.alloc HM.out _) b2)
      replace HV := Lib.hid (Blk.keep (Blk.alloc HV.out _) b2)
      replace HB := Lib.hid (bthen (balloc HB.out _) b2)
      clear b2
      obtain ⟨m0, m1, m2, m3, m4, m5, m6, m7, m8, m9, m10, m11, _, _, _, _, _, _, _, _, _, _, _, _⟩ := blk12 HM.out
      obtain ⟨v0, v1, v2, _, _, _⟩ := blk3 HV.out
      have zm := Blk.lt HM.out
      have zv := Blk.lt HV.out
      go_wp2_with fail
      refine (Hh3.out _).mono ?_
      rintro e w3 ⟨rfl, b3⟩
      have KB := Lib.hid ((Blk.new w2 25 _).keep b3)
      replace KA := Lib.hid ((KA.out.alloc _).keep b3)
      replace HM := Lib.hid (Blk.keep (Blk.alloc HM.out _) b3)
      replace HV := Lib.hid (Blk.keep (Blk.alloc HV.out _) b3)
      replace HB := Lib.hid (bthen (balloc HB.out _) b3)
      clear b3 m0 m1 m2 m3 m4 m5 m6 m7 m8 m9 m10 m11 v0 v1 v2 zm zv
      obtain ⟨m0, m1, m2, m3, m4, m5, m6, m7, m8, m9, m10, m11, _, _, _, _, _, _, _, _, _, _, _, _⟩ := blk12 HM.out
      obtain ⟨v0, v1, v2, _, _, _⟩ := blk3 HV.out
      have zm := Blk.lt HM.out
      have zv := Blk.lt HV.out
      go_wp2_with fail
      refine (Hh4.out _).mono ?_
      rintro e w4 ⟨rfl, b4⟩
      have KX := Lib.hid ((Blk.new w3 27 _).keep b4)
      replace KA := Lib.hid ((KA.out.alloc _).keep b4)
      replace KB := Lib.hid ((KB.out.alloc _).keep b4)
      replace HB := Lib.hid (bthen (balloc HB.out _) b4)
      clear b4 m0 m1 m2 m3 m4 m5 m6 m7 m8 m9 m10 m11 v0 v1 v2 zm zv HM HV
      go_wp2_with fail
      refine (aalive_any _).mono ?_
      rintro e w5 ⟨rfl, b5⟩
      have KY := Lib.hid ((Blk.new w4 27 _).keep b5)
      replace KX := Lib.hid ((KX.out.alloc _).keep b5)
      replace KA := Lib.hid ((KA.out.alloc _).keep b5)
      replace KB := Lib.hid ((KB.out.alloc _).keep b5)
      replace HB := Lib.hid (bthen (balloc HB.out _) b5)
      clear b5
      obtain ⟨m0, m1, m2, m3, m4, m5, m6, m7, m8, m9, m10, m11, _, _, _, _, _, _, _, _, _, _, _, _⟩ := blk12 KA.out
      obtain ⟨n0, n1, n2, n3, n4, n5, n6, n7, n8, n9, n10, n11, _, _, _, _, _, _, _, _, _, _, _, _⟩ := blk12 KB.out
      obtain ⟨x0, x1, x2, _, _, _⟩ := blk3 KX.out
      obtain ⟨y0, y1, y2, _, _, _⟩ := blk3 KY.out
      go_wp2_with fail
      refine (Hh5.out _ (mrow_keep HRow.out HB.out)).mono ?_
      rintro e w6 ⟨rfl, b6⟩
      replace HB := Lib.hid (bthen HB.out b6)
      clear b6
      go_wp2
      go_ret
      exact ⟨rfl, HB.out⟩

theorem walk (a : Option Addr) (len cap : Nat) (Ms : List (Nat → Int)) (M V : Nat → Int) (w : World) (row : MRow w a len Ms) (hcap : len ≤ cap) (hbig : cap ≤ 9223372036854775807) :
    Calls Try.prog 3 #[.slice a len cap, .agg #[.int .i64 (M 0), .int .i64 (M 1), .int .i64 (M 2), .int .i64 (M 3), .int .i64 (M 4), .int .i64 (M 5), .int .i64 (M 6), .int .i64 (M 7), .int .i64 (M 8), .int .i64 (M 9), .int .i64 (M 10), .int .i64 (M 11)], .agg #[.int .i64 (V 0), .int .i64 (V 1), .int .i64 (V 2)]] w fun e w' => e = .returned (.bool true) ∧ Below w.heap.size w w' := by
  by_cases h : 60 < len
  · exact walk_many a len cap M V w h row.2.1
  · exact walk_few a len cap Ms M V (mulMs Ms).1 (appV M V) (mulMs Ms).2 (appE M V) w (by omega) row
      (fun w' hr => mmul_any a len cap Ms w' hr hcap hbig) (fun w' hr => rmmul_any a len cap Ms w' hr) (fun w' => apply_any M V w') (fun w' => rapply_any M V w') (fun w' hr => mright_any a len cap Ms w' hr)

set_option maxRecDepth 100000 in
theorem lifted (os : Os) (started : os.Started) (H : Type) (enc : TypeId × Value → H) :
    ReturnsInHanded {} Try.checked os 3 .any (Rows.affineTellsSpec.pre6 enc Try.prog Try.f3 Rows.affineTellsRow.domain false) (Rows.affineTellsSpec.post enc Try.prog Try.f3 false true false false) := by
  refine returnsInHanded_of_change (C := Try.checked) own started (by kernel_rfl) Try.func3
    (ChangeSpec.witness6 (enc := enc) (C := Try.checked) false ⟨#[], #[.slice none 0 0, .agg #[.int .i64 0, .int .i64 0, .int .i64 0, .int .i64 0, .int .i64 0, .int .i64 0, .int .i64 0, .int .i64 0, .int .i64 0, .int .i64 0, .int .i64 0, .int .i64 0], .agg #[.int .i64 0, .int .i64 0, .int .i64 0]], []⟩ 8 (by kernel_rfl) (by kernel_rfl) (by kernel_rfl) (by kernel_rfl)) ?_
  intro W base args ds gs before hval0 hW hcnd _
  have hval : ∀ (j : Nat) t v, Try.f3.params[j]? = some t → args[j]? = some v → Value.okWide Try.prog W .any base t v := hval0
  have hW' := hW
  obtain ⟨p, q, hA0, hV, rfl, hfz, hnd⟩ := hW
  have hA : DataW.TrodAll enc Try.prog W 0 (fun _ => true) true Try.f3.params.toList args.toList ds p := hA0
  rw [Try.params3] at hA hval
  obtain ⟨v0, vs0, d0, ds0, p0, q0, hargs, rfl, rfl, h0, r0⟩ := trodAll_cons hA
  obtain ⟨v1, vs1, d1, ds1, p1, q1, rfl, rfl, rfl, h1, r1⟩ := trodAll_cons r0
  obtain ⟨v2, vs2, d2, ds2, p2, q2, rfl, rfl, rfl, h2, r2⟩ := trodAll_cons r1
  obtain ⟨rfl, rfl, rfl⟩ := trodAll_nil r2
  obtain rfl : args = #[v0, v1, v2] := by cases args; simp_all
  obtain ⟨rfl, rfl⟩ := trodVars_none hV
  obtain ⟨a0, len0, cap0, rfl⟩ := okWide_slice Try.underlying22 (hval 0 22 v0 rfl rfl)
  have k0 := h0
  have lt0 : ∀ x ∈ p0, x.block < W.heap.size := by obtain ⟨m, hm⟩ := k0; exact DataW.trod_lt m _ _ _ hm
  obtain ⟨Ms, row, hcap, hbig⟩ : ∃ Ms, MRow W a0 len0 Ms ∧ len0 ≤ cap0 ∧ cap0 ≤ 9223372036854775807 := by
    obtain ⟨fuel, hf⟩ := h0
    exact open_mats (by simpa [Value.cells] using hf)
  have k1 := h1
  have lt1 : ∀ x ∈ p1, x.block < W.heap.size := by obtain ⟨m, hm⟩ := k1; exact DataW.trod_lt m _ _ _ hm
  obtain ⟨M, rfl⟩ := open_mat (hval 1 25 v1 rfl rfl) h1
  have k2 := h2
  have lt2 : ∀ x ∈ p2, x.block < W.heap.size := by obtain ⟨m, hm⟩ := k2; exact DataW.trod_lt m _ _ _ hm
  obtain ⟨V, rfl⟩ := open_vec3 (hval 2 27 v2 rfl rfl) h2
  clear hA0 hval0
  refine (walk a0 len0 cap0 Ms M V W row hcap hbig).mono fun e W' ⟨he, bel⟩ => ?_
  subst he
  exact ⟨_, rfl, _, _, _, [], _, [], hW', trodAll_mk1 (shut_bool Try.underlying4 _), (trodAll_cons_mk (Below.trod laidOut (by kernel_rfl) (of_decide_eq_true (by kernel_rfl)) k0 bel lt0) (trodAll_cons_mk (Below.trod laidOut (by kernel_rfl) (of_decide_eq_true (by kernel_rfl)) k1 bel lt1) (trodAll_cons_mk (Below.trod laidOut (by kernel_rfl) (of_decide_eq_true (by kernel_rfl)) k2 bel lt2) trodAll_mk0))), rfl, bel.frame _, fun h => by cases h⟩

theorem over : Rows.affineTellsRow.holds Try.pinned (OpenSpec.ofChange Rows.affineTellsSpec) :=
  OpenClaim.holds_of_wide 3 Try.f3 rfl rfl rfl rfl rfl rfl rfl ⟨rfl, rfl, rfl, rfl, rfl⟩ rfl rfl rfl rfl rfl (by kernel_rfl) Try.func3 (by kernel_rfl)
    (of_decide_eq_true (by kernel_rfl)) (by unfold Func.isWrapper; first | (rw [if_pos (by decide +kernel)]; kernel_rfl) | (rw [if_neg (by decide +kernel)]; exact ⟨rfl, rfl⟩))
    (fun os started H enc _ => lifted os started H enc)

end Go.Proofs.Ytjdoneacbnalaaa.affineTells
namespace Go.Proofs.Ytjdoneacbnalaaa
theorem affineTells_holds : Rows.AffineTellsSaid := affineTells.over
#print axioms affineTells_holds
end Go.Proofs.Ytjdoneacbnalaaa
