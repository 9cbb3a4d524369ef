/-
  What the reference's Right of layer 6 answers.
-/
import Derived.Test.YtkondkajpmafkaaGreatMP04
namespace Go.Proofs.YtkondkajpmafkaaGreat
open Go.RowKit

def zI : Nat → Int := fun _ => 0
/-- of a kind: are its values nothing? -/
def zkB (M : Nat → Int) (m : Int) (B : Nat → Int) (p a : Int) (c : Bool) (l : Int) (k : Nat) : Bool :=
  if k = 0 then eq12 zI M else if k = 1 then (0 == m) && eq6 zI B else if k = 2 then (0 == p) && (0 == a) && (false == c) else if k = 3 then (0 == l) else true
/-- may kind k be as it is -/
def kindB (h : Int) (M : Nat → Int) (m : Int) (B : Nat → Int) (p a : Int) (c : Bool) (l : Int) (k : Nat) : Bool := hasN h k || zkB M m B p a c l k
def kindsB (h : Int) (M : Nat → Int) (m : Int) (B : Nat → Int) (p a : Int) (c : Bool) (l : Int) : Bool := kindB h M m B p a c l 0 && kindB h M m B p a c l 1 && kindB h M m B p a c l 2 && kindB h M m B p a c l 3 && kindB h M m B p a c l 4
def restB (M : Nat → Int) (m : Int) (B : Nat → Int) (p a : Int) (l : Int) : Bool := okM M && inB m 255 && okBox B && inB p 63 && inB a 255 && inB l 255
def rightP (h : Int) (M : Nat → Int) (m : Int) (B : Nat → Int) (p a : Int) (c : Bool) (l : Int) : Bool := decide (0 ≤ h) && decide (h ≤ 31) && kindsB h M m B p a c l && restB M m B p a l
theorem kinds_bad {h : Int} {M : Nat → Int} {m : Int} {B : Nat → Int} {p a : Int} {c : Bool} {l : Int} {k : Nat} (hk : k < 5) (hb : kindB h M m B p a c l k = false) : rightP h M m B p a c l = false := by
  have : kindsB h M m B p a c l = false := by
    unfold kindsB
    obtain rfl | rfl | rfl | rfl | rfl : k = 0 ∨ k = 1 ∨ k = 2 ∨ k = 3 ∨ k = 4 := by omega
    all_goals simp [hb]
  unfold rightP
  rw [this]
  simp
theorem kinds_all {h : Int} {M : Nat → Int} {m : Int} {B : Nat → Int} {p a : Int} {c : Bool} {l : Int} (hz : ∀ j, j < 5 → kindB h M m B p a c l j = true) (h0 : 0 ≤ h) (h1 : h ≤ 31) : rightP h M m B p a c l = restB M m B p a l := by
  unfold rightP kindsB
  rw [hz 0 (by omega), hz 1 (by omega), hz 2 (by omega), hz 3 (by omega), hz 4 (by omega), decide_eq_true h0, decide_eq_true h1]
  rfl
/-- a kind laid to nothing, and whether that is the same -/
theorem lay_zero (h : Int) (M : Nat → Int) (m : Int) (B : Nat → Int) (p a : Int) (c : Bool) (l : Int) {k : Nat} (hk : k < 5) : ∃ X' : List Value,
    (∀ w, Calls Tryz.prog 109 #[.agg (PL h M m B p a c l).toArray, .agg Z24.toArray, .int .i64 (k : Int)] w fun e w' => e = .returned (.agg X'.toArray) ∧ Below w.heap.size w w') ∧
    ∀ w, (Op.equalIn 10000 43 (.agg X'.toArray) (.agg (PL h M m B p a c l).toArray)).run Tryz.prog w = .ok (zkB M m B p a c l k) w := by
  obtain rfl | rfl | rfl | rfl | rfl : k = 0 ∨ k = 1 ∨ k = 2 ∨ k = 3 ∨ k = 4 := by omega
  · refine ⟨PL h zI m B p a c l, fun w => rlay_any 0 h M m B p a c l 0 zI 0 zI 0 0 false 0 w, fun w => ?_⟩
    rw [eqParts]
    unfold eqP zkB
    rw [eq6_self]
    simp
  · refine ⟨PL h M 0 zI p a c l, fun w => rlay_any 1 h M m B p a c l 0 zI 0 zI 0 0 false 0 w, fun w => ?_⟩
    rw [eqParts]
    unfold eqP zkB
    rw [eq12_self]
    simp
  · refine ⟨PL h M m B 0 0 false l, fun w => rlay_any 2 h M m B p a c l 0 zI 0 zI 0 0 false 0 w, fun w => ?_⟩
    rw [eqParts]
    unfold eqP zkB
    rw [eq12_self, eq6_self]
    simp
  · refine ⟨PL h M m B p a c 0, fun w => rlay_any 3 h M m B p a c l 0 zI 0 zI 0 0 false 0 w, fun w => ?_⟩
    rw [eqParts]
    unfold eqP zkB
    rw [eq12_self, eq6_self]
    simp
  · refine ⟨PL h M m B p a c l, fun w => rlay_any 4 h M m B p a c l 0 zI 0 zI 0 0 false 0 w, fun w => ?_⟩
    rw [eqParts]
    unfold eqP zkB
    rw [eq12_self, eq6_self]
    simp
theorem rin_bb {n m : Int} {b : Bool} (h : inB n m = b) (w : World) :
    Calls Tryz.prog 139 #[.int .i64 n, .int .i64 m] w fun e w' => e = .returned (.bool b) ∧ w = w' := (rin_b n m w).mono fun _ _ ⟨he, hw⟩ => ⟨by rw [he, h], hw⟩

set_option maxHeartbeats 4000000 in
set_option maxRecDepth 100000 in
theorem rpright_any (h : Int) (M : Nat → Int) (m : Int) (B : Nat → Int) (p a : Int) (c : Bool) (l : Int) (w : World) :
    Calls Tryz.prog 108 #[.agg (PL h M m B p a c l).toArray] w fun e w' => e = .returned (.bool (rightP h M m B p a c l)) ∧ Below w.heap.size w w' := by
  have HLay := Lib.hid (fun k (hk : k < 5) => lay_zero h M m B p a c l (k := k) hk)
  have HS := Lib.hid (size_parts h M m B p a c l)
  have HC : Hid (∀ w', Blk w' w.heap.size 43 (PL h M m B p a c l).toArray → w'.cell? ⟨w.heap.size, 0, none⟩ = some (.int .i64 h) ∧ w'.cell? ⟨w.heap.size, 13, none⟩ = some (.int .i64 m) ∧ w'.cell? ⟨w.heap.size, 20, none⟩ = some (.int .i64 p) ∧ w'.cell? ⟨w.heap.size, 21, none⟩ = some (.int .i64 a) ∧ w'.cell? ⟨w.heap.size, 23, none⟩ = some (.int .i64 l) ∧ w'.rangeAt w.heap.size 1 [.int .i64 (M 0), .int .i64 (M 1), .int .i64 (M 2), .int .i64 (M 3), .int .i64 (M 4), .int .i64 (M 5), .int .i64 (M 6), .int .i64 (M 7), .int .i64 (M 8), .int .i64 (M 9), .int .i64 (M 10), .int .i64 (M 11)] ∧ w'.rangeAt w.heap.size 14 [.int .i64 (B 0), .int .i64 (B 1), .int .i64 (B 2), .int .i64 (B 3), .int .i64 (B 4), .int .i64 (B 5)]) :=
    Lib.hid (fun w' hb => ⟨hb.cell 0, hb.cell 13, hb.cell 20, hb.cell 21, hb.cell 23, blk_range hb 1 12, blk_range hb 14 6⟩)
  obtain ⟨X, hX⟩ : ∃ X, X = PL h M m B p a c l := ⟨_, rfl⟩
  rw [← hX] at HLay HS HC
  rw [← hX]
  clear hX
  have KX := Lib.hid (Blk.new w 43 X.toArray)
  have c0 := (HC.out _ KX.out).1
  by_cases h0 : 0 ≤ h
  · by_cases h1 : h ≤ 31
    · go_enter Tryz.func108, Tryz.ntmps108
      go_wp2
      go_loopw [3] (fun i wr => ∃ k : Nat, k ≤ 5 ∧ i = .int .i64 k ∧ (∀ j, j < k → kindB h M m B p a c l j = true) ∧ Blk wr w.heap.size 43 X.toArray ∧ Below w.heap.size w wr) (fun i _ => 5 - (intOf i).toNat)
      case atStart => exact ⟨0, by omega, rfl, fun j hj => by omega, KX.out, alloc_below _ _⟩
      case round =>
        clear KX c0
        obtain ⟨k, hk, rfl, hz, hb, hbl⟩ := hrel
        have HZ := Lib.hid hz
        have KX := Lib.hid hb
        have HB := Lib.hid hbl
        clear hz hb hbl
        by_cases hlt : k < 5
        · obtain ⟨X', hl, heq⟩ := HLay.out k hlt
          have HL := Lib.hid hl
          clear hl
          have c0 := (HC.out _ KX.out).1
          have hkk : (k : Int) ≤ 4 := by omega
          obtain ⟨q, hq⟩ : ∃ q, q = hasN h k := ⟨_, rfl⟩
          have HH : Hid (hasB h k = q) := Lib.hid (by rw [hq]; exact has_yes (by omega))
          obtain ⟨z, hzk⟩ : ∃ z, z = zkB M m B p a c l k := ⟨_, rfl⟩
          have HK : Hid (kindB h M m B p a c l k = (q || z)) := Lib.hid (by unfold kindB; rw [hq, hzk])
          rw [← hzk] at heq
          clear hq hzk
          cases q
          · go_wp2_with fail
            refine (rhas_b HH.out _).mono ?_
            rintro e w1 ⟨rfl, rfl⟩
            have hu := Tryz.underlying43
            have hsX := HS.out
            cases z
            · go_wp2
              refine wp_region_held_drew (S := fun w' => w'.rangeAt w.heap.size 0 X) (by kernel_rfl) (blk_whole (Blk.drew KX.out)) (fun hHeld => ?_)
              refine tk 0 hHeld ?_
              refine tk 1 hHeld ?_
              refine tk 2 hHeld ?_
              refine tkl 3 rfl (yieldsIf_load_mid (by rfl) _ _ rfl _ _ rfl _ _ (fun _ h => h) hu rfl hsX) hHeld ?_
              refine tk 4 hHeld ?_
              refine tk 5 hHeld ?_
              refine tkl 7 rfl (yieldsIf_load_mid (by rfl) _ _ rfl _ _ rfl _ _ (fun _ h => h) hu rfl hsX) hHeld ?_
              refine rd 6 (fun K hK => ?_)
              go_simp
              go_at_call 109
              refine (HL.out _).mono ?_
              rintro e w2 ⟨rfl, b2⟩
              go_wp2_with fail
              refine hK.out _ _ (blk_whole (Blk.keep KX.out (bdrew b2))) (fun hHeld => ?_)
              clear hK K
              replace KX := Lib.hid (Blk.keep KX.out (bdrew b2))
              replace HB := Lib.hid (bthen HB.out (bdrew b2))
              clear b2
              refine tk 8 hHeld ?_
              refine tk 9 hHeld ?_
              refine wpAnyH_done (by kernel_rfl) ?_ _
              clear hHeld heq
              go_wp2
              go_ret
              exact ⟨by rw [kinds_bad hlt (by rw [HK.out]; rfl)]; rfl, HB.out⟩
            · go_wp2
              refine wp_region_held_drew (S := fun w' => w'.rangeAt w.heap.size 0 X) (by kernel_rfl) (blk_whole (Blk.drew KX.out)) (fun hHeld => ?_)
              refine tk 0 hHeld ?_
              refine tk 1 hHeld ?_
              refine tk 2 hHeld ?_
              refine tkl 3 rfl (yieldsIf_load_mid (by rfl) _ _ rfl _ _ rfl _ _ (fun _ h => h) hu rfl hsX) hHeld ?_
              refine tk 4 hHeld ?_
              refine tk 5 hHeld ?_
              refine tkl 7 rfl (yieldsIf_load_mid (by rfl) _ _ rfl _ _ rfl _ _ (fun _ h => h) hu rfl hsX) hHeld ?_
              refine rd 6 (fun K hK => ?_)
              go_simp
              go_at_call 109
              refine (HL.out _).mono ?_
              rintro e w2 ⟨rfl, b2⟩
              go_wp2_with fail
              refine hK.out _ _ (blk_whole (Blk.keep KX.out (bdrew b2))) (fun hHeld => ?_)
              clear hK K
              replace KX := Lib.hid (Blk.keep KX.out (bdrew b2))
              replace HB := Lib.hid (bthen HB.out (bdrew b2))
              clear b2
              refine tk 8 hHeld ?_
              refine tk 9 hHeld ?_
              refine wpAnyH_done (by kernel_rfl) ?_ _
              clear hHeld heq
              go_wp2
              go_roundw
              case rel => exact ⟨k + 1, by omega, by go_num, fun j hj => (by
                by_cases cj : j = k
                · rw [cj, HK.out]; rfl
                · exact HZ.out j (by omega)), KX.out, HB.out⟩
              case measure => simp [intOf] <;> omega
          · go_wp2_with fail
            refine (rhas_b HH.out _).mono ?_
            rintro e w1 ⟨rfl, rfl⟩
            go_wp2
            go_quiet (fail)
            go_wp2
            go_roundw
            case rel => exact ⟨k + 1, by omega, by go_num, fun j hj => (by
              by_cases cj : j = k
              · rw [cj, HK.out]; rfl
              · exact HZ.out j (by omega)), KX.out.drewN nq, Go.below_drewN HB.out nq⟩
            case measure => simp [intOf] <;> omega
        · obtain rfl : k = 5 := by omega
          have HR := Lib.hid (kinds_all HZ.out h0 h1)
          clear HZ HLay
          have HSB : Hid ((Tryz.prog.info? 41).map (·.size) = some ([.int .i64 (B 0), .int .i64 (B 1), .int .i64 (B 2), .int .i64 (B 3), .int .i64 (B 4), .int .i64 (B 5)] : List Value).length) := Lib.hid (by kernel_rfl)
          have HSM := Lib.hid (sizeM M)
          have HW := Lib.hid (HC.out _ KX.out)
          obtain ⟨b1, hb1⟩ : ∃ b, okM M = b := ⟨_, rfl⟩
          obtain ⟨b2, hb2⟩ : ∃ b, inB m 255 = b := ⟨_, rfl⟩
          obtain ⟨b3, hb3⟩ : ∃ b, okBox B = b := ⟨_, rfl⟩
          obtain ⟨b4, hb4⟩ : ∃ b, inB p 63 = b := ⟨_, rfl⟩
          obtain ⟨b5, hb5⟩ : ∃ b, inB a 255 = b := ⟨_, rfl⟩
          obtain ⟨b6, hb6⟩ : ∃ b, inB l 255 = b := ⟨_, rfl⟩
          have HRest : Hid (rightP h M m B p a c l = (b1 && b2 && b3 && b4 && b5 && b6)) := Lib.hid (by rw [HR.out]; unfold restB; rw [hb1, hb2, hb3, hb4, hb5, hb6])
          have H1 := Lib.hid hb1
          have H2 := Lib.hid hb2
          have H3 := Lib.hid hb3
          have H4 := Lib.hid hb4
          have H5 := Lib.hid hb5
          have H6 := Lib.hid hb6
          clear hb1 hb2 hb3 hb4 hb5 hb6 HR
          go_wp2_with (refine wpList_load_mid rfl 37 (.tmp 33) rfl w.heap.size 1 rfl [.int .i64 (M 0), .int .i64 (M 1), .int .i64 (M 2), .int .i64 (M 3), .int .i64 (M 4), .int .i64 (M 5), .int .i64 (M 6), .int .i64 (M 7), .int .i64 (M 8), .int .i64 (M 9), .int .i64 (M 10), .int .i64 (M 11)] _ HW.out.2.2.2.2.2.1 Tryz.underlying37 rfl HSM.out ?_)
          go_wp2_with fail
          refine (rmright_c H1.out _).mono ?_
          rintro e w2 ⟨rfl, bb⟩
          replace KX := Lib.hid (Blk.keep KX.out bb)
          replace HB := Lib.hid (bthen HB.out bb)
          clear bb HW
          have HW := Lib.hid (HC.out _ KX.out)
          go_wp2_with (refine wpList_load_mid rfl 41 (.tmp 36) rfl w.heap.size 14 rfl [.int .i64 (B 0), .int .i64 (B 1), .int .i64 (B 2), .int .i64 (B 3), .int .i64 (B 4), .int .i64 (B 5)] _ HW.out.2.2.2.2.2.2 Tryz.underlying41 rfl HSB.out ?_)
          go_wp2_with fail
          refine (rbox_b H3.out _).mono ?_
          rintro e w3 ⟨rfl, bb⟩
          replace KX := Lib.hid (Blk.keep KX.out bb)
          replace HB := Lib.hid (bthen HB.out bb)
          clear bb HW
          obtain ⟨_, c13, c20, c21, c23, _, _⟩ := HC.out _ KX.out
          cases b1
          · go_wp2
            go_ret
            exact ⟨by rw [HRest.out]; simp, HB.out⟩
          · skip
            go_wp2_with fail
            refine (rin_bb H2.out _).mono ?_
            rintro e w4 ⟨rfl, rfl⟩
            cases b2
            · go_wp2
              go_ret
              exact ⟨by rw [HRest.out]; simp, HB.out⟩
            · skip
              cases b3
              · go_wp2
                go_ret
                exact ⟨by rw [HRest.out]; simp, HB.out⟩
              · skip
                go_wp2_with fail
                refine (rin_bb H4.out _).mono ?_
                rintro e w4 ⟨rfl, rfl⟩
                cases b4
                · go_wp2
                  go_ret
                  exact ⟨by rw [HRest.out]; simp, HB.out⟩
                · skip
                  go_wp2_with fail
                  refine (rin_bb H5.out _).mono ?_
                  rintro e w4 ⟨rfl, rfl⟩
                  cases b5
                  · go_wp2
                    go_ret
                    exact ⟨by rw [HRest.out]; simp, HB.out⟩
                  · skip
                    go_wp2_with fail
                    refine (rin_bb H6.out _).mono ?_
                    rintro e w4 ⟨rfl, rfl⟩
                    go_wp2
                    go_ret
                    exact ⟨by rw [HRest.out]; simp, HB.out⟩
    · have hno : rightP h M m B p a c l = false := by unfold rightP; rw [show decide (h ≤ 31) = false by simpa using h1]; simp
      have HNo := Lib.hid hno
      clear hno
      go_enter Tryz.func108, Tryz.ntmps108
      go_wp2
      go_ret
      exact ⟨by rw [HNo.out]; rfl, alloc_below _ _⟩
  · have hno : rightP h M m B p a c l = false := by unfold rightP; rw [show decide (0 ≤ h) = false by simpa using h0]; rfl
    have HNo := Lib.hid hno
    clear hno
    go_enter Tryz.func108, Tryz.ntmps108
    go_wp2
    go_ret
    exact ⟨by rw [HNo.out]; rfl, alloc_below _ _⟩

theorem rpright_b {h : Int} {M : Nat → Int} {m : Int} {B : Nat → Int} {p a : Int} {c : Bool} {l : Int} {b : Bool} (hb : rightP h M m B p a c l = b) (w : World) :
    Calls Tryz.prog 108 #[.agg (PL h M m B p a c l).toArray] w fun e w' => e = .returned (.bool b) ∧ Below w.heap.size w w' := (rpright_any h M m B p a c l w).mono fun _ _ ⟨he, hw⟩ => ⟨by rw [he, hb], hw⟩
end Go.Proofs.YtkondkajpmafkaaGreat
