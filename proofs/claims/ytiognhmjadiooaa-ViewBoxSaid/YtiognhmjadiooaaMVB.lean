/-
  ViewBox answers true for every box and every record: in the sides of a box, a record with a bit in common is seen if, and only if, its box and that one have a vector in common, unless something runs over. No conditions.
-/
import Derived.Test.YtiognhmjadiooaaRows
import Derived.Test.YtiognhmjadiooaaMV11
import Derived.Test.YtiognhmjadiooaaMV12
import Derived.Test.YtiognhmjadiooaaMV13
import Derived.WalkKit
import Derived.ProofKit
import Derived.OpenShut
import Derived.ChangeOld
import Derived.Below
import Derived.Deep.Slices
import Derived.Laws.IdiomArrays
namespace Go.Proofs.Ytiognhmjadiooaa.viewBox
open Go.ChangeShapes Go.WideShapes Go.ChangeAt Go.RowKit Go.Deep
set_option linter.unusedVariables false
theorem own : ownKnob Try.prog.godebug = none := by kernel_rfl
theorem laidOut : laidOutB Try.prog = true := by kernel_rfl
theorem rc12 {w : World} {g : Nat} {t : TypeId} {z0 z1 z2 z3 z4 z5 x0 x1 x2 x3 x4 x5 : Value} (h : Blk w g t #[z0, z1, z2, z3, z4, z5, x0, x1, x2, x3, x4, x5]) : w.cell? ⟨g, 0, none⟩ = some z0 ∧ w.cell? ⟨g, 1, none⟩ = some z1 ∧ w.cell? ⟨g, 2, none⟩ = some z2 ∧ w.cell? ⟨g, 3, none⟩ = some z3 ∧ w.cell? ⟨g, 4, none⟩ = some z4 ∧ w.cell? ⟨g, 5, none⟩ = some z5 ∧ w.cell? ⟨g, 6, none⟩ = some x0 ∧ w.cell? ⟨g, 7, none⟩ = some x1 ∧ w.cell? ⟨g, 8, none⟩ = some x2 ∧ w.cell? ⟨g, 9, none⟩ = some x3 ∧ w.cell? ⟨g, 10, none⟩ = some x4 ∧ w.cell? ⟨g, 11, none⟩ = some x5 ∧ g < w.heap.size :=
  ⟨h.cell 0, h.cell 1, h.cell 2, h.cell 3, h.cell 4, h.cell 5, h.cell 6, h.cell 7, h.cell 8, h.cell 9, h.cell 10, h.cell 11, h.lt⟩
def boxR (r : Rc) : Nat → Int
  | 0 => r.x0
  | 1 => r.x1
  | 2 => r.x2
  | 3 => r.x3
  | 4 => r.x4
  | _ => r.x5
theorem boxE_zero {B : Nat → Int} (h : boxE B = 0) : okBox B = true ∧ boxL B = sidesTo B 3 := by
  refine ⟨?_, by unfold boxL; rw [if_pos h]⟩
  cases c : okBox B with
  | true => rfl
  | false => rw [(boxE_no c).1] at h; exact absurd h (by decide)
def zE : Nat → Int := fun _ => 0
set_option maxHeartbeats 8000000 in
set_option maxRecDepth 10000 in
theorem walk (B : Nat → Int) (z0 z1 z2 z3 z4 : Value) (ly : Int) (C : Nat → Int) (w : World) :
    Calls Try.prog 5 #[.agg #[.int .i64 (B 0), .int .i64 (B 1), .int .i64 (B 2), .int .i64 (B 3), .int .i64 (B 4), .int .i64 (B 5)], .agg #[z0, z1, z2, z3, z4, .int .i64 ly, .int .i64 (C 0), .int .i64 (C 1), .int .i64 (C 2), .int .i64 (C 3), .int .i64 (C 4), .int .i64 (C 5)]] w fun e w' => e = .returned (.bool true) ∧ Below w.heap.size w w' := by
  have hbel := balloc (alloc_below w (.cells #[.int .i64 (B 0), .int .i64 (B 1), .int .i64 (B 2), .int .i64 (B 3), .int .i64 (B 4), .int .i64 (B 5)] 33)) (.cells #[z0, z1, z2, z3, z4, .int .i64 ly, .int .i64 (C 0), .int .i64 (C 1), .int .i64 (C 2), .int .i64 (C 3), .int .i64 (C 4), .int .i64 (C 5)] 35)
  have HBel := Lib.hid hbel
  have K := Lib.hid ((Blk.new w 33 #[.int .i64 (B 0), .int .i64 (B 1), .int .i64 (B 2), .int .i64 (B 3), .int .i64 (B 4), .int .i64 (B 5)]).alloc (.cells #[z0, z1, z2, z3, z4, .int .i64 ly, .int .i64 (C 0), .int .i64 (C 1), .int .i64 (C 2), .int .i64 (C 3), .int .i64 (C 4), .int .i64 (C 5)] 35))
  have K' := Lib.hid (blkAt (Blk.new (w.alloc (.cells #[.int .i64 (B 0), .int .i64 (B 1), .int .i64 (B 2), .int .i64 (B 3), .int .i64 (B 4), .int .i64 (B 5)] 33)) 35 #[z0, z1, z2, z3, z4, .int .i64 ly, .int .i64 (C 0), .int .i64 (C 1), .int .i64 (C 2), .int .i64 (C 3), .int .i64 (C 4), .int .i64 (C 5)]) (g' := w.heap.size + 1) (by simp))
  have hbx := box14_any B
  clear hbel
  by_cases hE : boxE B = 0
  · obtain ⟨hB, hL⟩ := boxE_zero hE
    rw [hE, hL] at hbx
    have HBx : Hid (∀ w, Calls Try.prog 14 #[.agg #[.int .i64 (B 0), .int .i64 (B 1), .int .i64 (B 2), .int .i64 (B 3), .int .i64 (B 4), .int .i64 (B 5)]] w fun e w' => ∃ g cap, e = .returned (.tuple #[.slice (some ⟨g, 0, none⟩) 6 cap, .int .i64 0]) ∧ PlRow w' (some ⟨g, 0, none⟩) 6 (sidesTo B 3) ∧ Below w.heap.size w w') := Lib.hid (fun w => by
      refine (hbx w).mono ?_
      rintro e w' ⟨v, he, ho, hb⟩
      obtain ⟨g, cap, rfl, _, _, h3, _⟩ := own_pl ho (by rw [sidesTo_len]; omega)
      rw [sidesTo_len] at he h3
      exact ⟨g, cap, he, h3, hb⟩)
    clear hbx hE hL
    obtain ⟨z, hz⟩ : ∃ z, bits .and .i64 ly 255 = z := ⟨_, rfl⟩
    by_cases hz0 : z = 0
    · subst hz0
      clear hB
      go_enter Try.func5, Try.ntmps5
      go_wp2_with fail
      refine (HBx.out _).mono ?_
      rintro e w1 ⟨g, cap, rfl, hrow, q1⟩
      obtain ⟨d0, d1, d2, d3, d4, d5, d6, d7, d8, d9, d10, d11, y'⟩ := rc12 (K'.out.keep q1)
      have HB1 := Lib.hid (bthen HBel.out q1)
      clear hrow q1
      go_wp2_with fail
      refine (alive14_any _).mono ?_
      rintro e w2 ⟨rfl, q2⟩
      have HB2 := Lib.hid (bthen HB1.out q2)
      clear q2
      go_wp2
      go_ret
      exact ⟨rfl, HB2.out⟩
    · have hzb : (z == 0) = false := beq_eq_false_iff_ne.2 hz0
      have hl : bits .and .i64 ly 255 ≠ 0 := fun c => hz0 (hz.symm.trans c)
      obtain ⟨t1, t2, t3, hT⟩ : ∃ t1 t2 t3, seeT ⟨sidesTo B 3, zE, 255⟩ ly C = (t1, t2, t3) := ⟨_, _, _, rfl⟩
      have HEr : Hid (t3 ≠ 0 → t2 = false) := Lib.hid (fun h => by have := see_err (v := ⟨sidesTo B 3, zE, 255⟩) (ly := ly) (B := C) (by rw [hT]; exact h); rw [hT] at this; exact this)
      have HBo : Hid (t3 = 0 → t2 = meetB B C) := Lib.hid (fun h => by have := see_box (E := zE) (C := C) hB hl (by rw [hT]; exact h); rw [hT] at this; exact this)
      have HSe : Hid (∀ g cap w, PlRow w (some ⟨g, 0, none⟩) 6 (sidesTo B 3) → Calls Try.prog 7 #[.agg #[.slice (some ⟨g, 0, none⟩) 6 cap, .int .i64 0, .int .i64 0, .int .i64 0, .int .i64 0, .int .i64 255], .agg #[z0, z1, z2, z3, z4, .int .i64 ly, .int .i64 (C 0), .int .i64 (C 1), .int .i64 (C 2), .int .i64 (C 3), .int .i64 (C 4), .int .i64 (C 5)]] w fun e w' => e = .returned (.tuple #[.int .i64 t1, .bool t2, .int .i64 t3]) ∧ Below w.heap.size w w') := Lib.hid (fun g cap w row => by
        have q := sees_any (some ⟨g, 0, none⟩) 6 cap (sidesTo B 3) zE 255 z0 z1 z2 z3 z4 ly C w row
        rw [hT] at q
        exact q)
      have HMe := Lib.hid (meet_any B C)
      clear hT hB hl
      go_enter Try.func5, Try.ntmps5
      go_wp2_with fail
      refine (HBx.out _).mono ?_
      rintro e w1 ⟨g, cap, rfl, hrow, q1⟩
      have HRow := Lib.hid hrow
      have K1 := Lib.hid (K.out.keep q1)
      have K1' := Lib.hid (K'.out.keep q1)
      have HB1 := Lib.hid (bthen HBel.out q1)
      clear hrow q1 K K' HBel
      obtain ⟨d0, d1, d2, d3, d4, d5, d6, d7, d8, d9, d10, d11, y'⟩ := rc12 K1'.out
      go_wp2_with fail
      refine (HSe.out g cap _ HRow.out).mono ?_
      rintro e w2 ⟨rfl, q2⟩
      have K2 := Lib.hid (K1.out.keep q2)
      have K2' := Lib.hid (K1'.out.keep q2)
      have HB2 := Lib.hid (bthen HB1.out q2)
      clear q2 d0 d1 d2 d3 d4 d5 d6 d7 d8 d9 d10 d11 y' K1 K1' HB1
      by_cases h3 : t3 = 0
      · have h2 := HBo.out h3
        subst h3
        clear HEr HBo
        obtain ⟨mb, hmb⟩ : ∃ mb, mb = meetB B C := ⟨_, rfl⟩
        rw [← hmb] at HMe h2
        subst h2
        clear hmb
        go_wp2_with fail
        refine (alive14_any _).mono ?_
        rintro e w3 ⟨rfl, q3⟩
        have K3 := Lib.hid (K2.out.keep q3)
        have K3' := Lib.hid (K2'.out.keep q3)
        have HB3 := Lib.hid (bthen HB2.out q3)
        clear q3
        obtain ⟨c0, c1, c2, c3, c4, c5, y⟩ := vblk K3.out
        obtain ⟨d0, d1, d2, d3, d4, d5, d6, d7, d8, d9, d10, d11, y'⟩ := rc12 K3'.out
        go_wp2_with fail
        refine (HMe.out _).mono ?_
        rintro e w4 ⟨rfl, q4⟩
        have HB4 := Lib.hid (bthen HB3.out q4)
        clear q4
        go_wp2
        go_ret
        exact ⟨by cases t2 <;> rfl, HB4.out⟩
      · have h2 := HEr.out h3
        subst h2
        clear HEr HBo
        go_wp2_with fail
        refine (alive14_any _).mono ?_
        rintro e w3 ⟨rfl, q3⟩
        have HB3 := Lib.hid (bthen HB2.out q3)
        clear q3
        go_wp2
        go_ret
        exact ⟨rfl, HB3.out⟩
  · have HBx : Hid (∀ w, Calls Try.prog 14 #[.agg #[.int .i64 (B 0), .int .i64 (B 1), .int .i64 (B 2), .int .i64 (B 3), .int .i64 (B 4), .int .i64 (B 5)]] w fun e w' => ∃ a n cap, e = .returned (.tuple #[.slice a n cap, .int .i64 (boxE B)]) ∧ Below w.heap.size w w') := Lib.hid (fun w => by
      refine (hbx w).mono ?_
      rintro e w' ⟨v, he, ho, hb⟩
      obtain ⟨a, cap, rfl, _⟩ := ho.row cPl_len
      exact ⟨a, _, cap, he, hb⟩)
    obtain ⟨E, hEE⟩ : ∃ E, E = boxE B := ⟨_, rfl⟩
    rw [← hEE] at HBx hE
    clear hbx hEE
    go_enter Try.func5, Try.ntmps5
    go_wp2_with fail
    refine (HBx.out _).mono ?_
    rintro e w1 ⟨a, n, cap, rfl, q1⟩
    have HB1 := Lib.hid (bthen HBel.out q1)
    clear q1
    go_wp2_with fail
    refine (alive14_any _).mono ?_
    rintro e w2 ⟨rfl, q2⟩
    have HB2 := Lib.hid (bthen HB1.out q2)
    clear q2
    go_wp2
    go_ret
    exact ⟨rfl, HB2.out⟩
set_option maxRecDepth 100000 in
theorem lifted (os : Os) (started : os.Started) (H : Type) (enc : TypeId × Value → H) :
    ReturnsInHanded {} Try.checked os 5 .any (Rows.viewBoxSpec.pre6 enc Try.prog Try.f5 Rows.viewBoxRow.domain false) (Rows.viewBoxSpec.post enc Try.prog Try.f5 false true false false) := by
  refine returnsInHanded_of_change (C := Try.checked) own started (by kernel_rfl) Try.func5
    (ChangeSpec.witness6 (enc := enc) (C := Try.checked) false ⟨#[], #[.agg #[.int .i64 0, .int .i64 0, .int .i64 0, .int .i64 0, .int .i64 0, .int .i64 0], .agg (cRc zRc).toArray], []⟩ 8 (by kernel_rfl) (by kernel_rfl) (by kernel_rfl) (by kernel_rfl)) ?_
  intro W base args ds gs before hval0 hW hcnd _
  have hval : ∀ (j : Nat) t v, Try.f5.params[j]? = some t → args[j]? = some v → Value.okWide Try.prog W .any base t v := hval0
  have hW' := hW
  obtain ⟨p, q, hA0, hV, rfl, hfz, hnd⟩ := hW
  have hA : DataW.TrodAll enc Try.prog W 0 (fun _ => true) true Try.f5.params.toList args.toList ds p := hA0
  rw [Try.params5] at hA hval
  obtain ⟨v0, vs0, d0, ds0, p0, q0, hargs, rfl, rfl, h0, r0⟩ := trodAll_cons hA
  obtain ⟨v1, vs1, d1, ds1, p1, q1, rfl, rfl, rfl, h1, r1⟩ := trodAll_cons r0
  obtain ⟨rfl, rfl, rfl⟩ := trodAll_nil r1
  obtain rfl : args = #[v0, v1] := by cases args; simp_all
  obtain ⟨rfl, rfl⟩ := trodVars_none hV
  have k0 := h0
  have lt0 : ∀ x ∈ p0, x.block < W.heap.size := by obtain ⟨m, hm⟩ := k0; exact DataW.trod_lt m _ _ _ hm
  obtain ⟨B0, rfl⟩ := open_box (hval 0 33 v0 rfl rfl) h0
  have k1 := h1
  have lt1 : ∀ x ∈ p1, x.block < W.heap.size := by obtain ⟨m, hm⟩ := k1; exact DataW.trod_lt m _ _ _ hm
  obtain ⟨x1, rfl⟩ := open_rec (hval 1 35 v1 rfl rfl) h1
  clear hA0 hval0
  refine (walk B0 (.int .i64 x1.id) (.int .i64 x1.ms) (.int .i64 x1.pp) (.int .i64 x1.mt) (.bool x1.cl) x1.ly (boxR x1) W).mono fun e W' ⟨he, bel⟩ => ?_
  subst he
  exact ⟨_, rfl, _, _, _, [], _, [], hW', trodAll_mk1 (shut_bool Try.underlying4 _), (trodAll_cons_mk (Below.trod laidOut (by kernel_rfl) (of_decide_eq_true (by kernel_rfl)) k0 bel lt0) (trodAll_cons_mk (Below.trod laidOut (by kernel_rfl) (of_decide_eq_true (by kernel_rfl)) k1 bel lt1) trodAll_mk0)), rfl, bel.frame _, fun h => by cases h⟩

theorem over : Rows.viewBoxRow.holds Try.pinned (OpenSpec.ofChange Rows.viewBoxSpec) :=
  OpenClaim.holds_of_wide 5 Try.f5 rfl rfl rfl rfl rfl rfl rfl ⟨rfl, rfl, rfl, rfl, rfl⟩ rfl rfl rfl rfl rfl (by kernel_rfl) Try.func5 (by kernel_rfl)
    (of_decide_eq_true (by kernel_rfl)) (by unfold Func.isWrapper; first | (rw [if_pos (by decide +kernel)]; kernel_rfl) | (rw [if_neg (by decide +kernel)]; exact ⟨rfl, rfl⟩))
    (fun os started H enc _ => lifted os started H enc)

end Go.Proofs.Ytiognhmjadiooaa.viewBox
namespace Go.Proofs.Ytiognhmjadiooaa
theorem viewBox_holds : Rows.ViewBoxSaid := viewBox.over
#print axioms viewBox_holds
end Go.Proofs.Ytiognhmjadiooaa
