/-
  FixFloors answers true for every three numbers of 32 bits: products and quotients are dropped downwards, by less than a last place, and never turn their order. No conditions.
-/
import Derived.Test.YtochehhdjgccoaaRows
import Derived.Test.YtochehhdjgccoaaFixL
import Derived.WalkKit
import Derived.ProofKit
import Derived.OpenShut
import Derived.ShutString
import Derived.ChangeOld
import Derived.Below
namespace Go.Proofs.Ytochehhdjgccoaa.fixFloors
open Go.ChangeShapes Go.WideShapes Go.ChangeAt Go.RowKit
set_option linter.unusedVariables false

theorem own : ownKnob Try.prog.godebug = none := by kernel_rfl

/-- a function of two numbers that answers these two -/
def Gives (f : Nat) (a b v e : Int) : Prop :=
  ∀ w : World, Calls Try.prog f #[.int .i64 a, .int .i64 b] w fun r w' => r = .returned (.tuple #[.int .i64 v, .int .i64 e]) ∧ Below w.heap.size w w'

/-- a product of numbers that may be: it runs over, or it is the exact one, dropped downwards -/
theorem mul_two {a b : Int} (ha : okB a = true) (hb : okB b = true) :
    ∃ p e : Int, Gives 13 a b p e ∧ p = fitV (a * b / 65536) ∧ (e = 6 ∨ (e = 0 ∧ p = a * b / 65536 ∧ -2147483648 ≤ p ∧ p ≤ 2147483647)) := by
  have h : (okB a && okB b) = true := by rw [ha, hb]; rfl
  refine ⟨fitV (a * b / 65536), fitE (a * b / 65536), fun w => ?_, rfl, ?_⟩
  · have := mul_any a b w
    rw [(mul_yes h).1, (mul_yes h).2] at this
    exact this
  · by_cases k : okB (a * b / 65536) = true
    · obtain ⟨k1, k2⟩ := okB_iff.1 k
      have e1 : fitV (a * b / 65536) = a * b / 65536 := by unfold fitV; rw [if_pos k]
      exact Or.inr ⟨by unfold fitE; rw [if_pos k], e1, by omega, by omega⟩
    · exact Or.inl (by unfold fitE; rw [if_neg k])

theorem mul_one {a : Int} (ha : okB a = true) : Gives 13 a 65536 a 0 := by
  intro w
  have h : (okB a && okB 65536) = true := by rw [ha]; decide
  have e : a * 65536 / 65536 = a := by omega
  have := mul_any a 65536 w
  rw [(mul_yes h).1, (mul_yes h).2, e] at this
  unfold fitV fitE at this
  rw [if_pos ha, if_pos ha] at this
  exact this

/-- a quotient of numbers that may be, by how it ends -/
theorem div_ways {a b : Int} (ha : okB a = true) (hb : okB b = true) :
    ∃ d h : Int, Gives 15 a b d h ∧ -2147483648 ≤ d ∧ d ≤ 2147483647 ∧
      ((h = 6) ∨ (h = 1 ∧ b = 0) ∨ (h = 0 ∧ 0 < b ∧ 0 ≤ a * 65536 - d * b ∧ a * 65536 - d * b < b) ∨ (h = 0 ∧ b < 0 ∧ a * 65536 - d * b ≤ 0 ∧ b < a * 65536 - d * b)) := by
  by_cases hz : b = 0
  · have h : divOk a b = false := by unfold divOk; subst hz; simp
    refine ⟨0, 1, fun w => ?_, by decide, by decide, Or.inr (Or.inl ⟨rfl, hz⟩)⟩
    have := div_any a b w
    rw [(div_no h).1, (div_no h).2] at this
    exact this
  · have h : divOk a b = true := by unfold divOk; rw [ha, hb]; simpa using hz
    by_cases k : okB ((a * 65536).fdiv b) = true
    · obtain ⟨k1, k2⟩ := okB_iff.1 k
      refine ⟨(a * 65536).fdiv b, 0, fun w => ?_, k1, k2, Or.inr (Or.inr ?_)⟩
      · have := div_any a b w
        rw [(div_yes h).1, (div_yes h).2] at this
        unfold fitV fitE at this
        rw [if_pos k, if_pos k] at this
        exact this
      · have hm := Int.mul_fdiv_add_fmod (a * 65536) b
        rw [Int.mul_comm] at hm
        rcases Int.lt_or_gt_of_ne hz with h0 | h0
        · right
          have m := Int.fmod_lt_of_pos (-(a * 65536)) (show 0 < -b by omega)
          have m2 := Int.fmod_nonneg_of_pos (-(a * 65536)) (show 0 < -b by omega)
          rw [Int.neg_fmod_neg] at m m2
          omega
        · left
          have m := Int.fmod_lt_of_pos (a * 65536) h0
          have m2 := Int.fmod_nonneg_of_pos (a * 65536) h0
          omega
    · refine ⟨0, 6, fun w => ?_, by decide, by decide, Or.inl rfl⟩
      have := div_any a b w
      rw [(div_yes h).1, (div_yes h).2] at this
      unfold fitV fitE at this
      rw [if_neg k, if_neg k] at this
      exact this

theorem floor_mono {a b c : Int} (ha : 0 ≤ a) (h : b ≤ c) : a * b / 65536 ≤ a * c / 65536 := by
  have := Int.mul_le_mul_of_nonneg_left h ha
  omega
theorem floor_anti {a b c : Int} (ha : a ≤ 0) (h : b ≤ c) : a * c / 65536 ≤ a * b / 65536 := by
  have := Int.mul_le_mul_of_nonpos_left ha h
  omega

/-- the first product, and how the third one stands to it, by the cases that the law's tests ask -/
theorem two_ways {a b c : Int} (ha : okB a = true) (hb : okB b = true) (hc : okB c = true) :
    ∃ p e q g : Int, Gives 13 a b p e ∧ Gives 13 a c q g ∧
      (e = 6 ∨ (e = 0 ∧ -2147483648 ≤ p ∧ p ≤ 2147483647 ∧ p * 65536 ≤ a * b ∧ a * b < p * 65536 + 65536 ∧
        (g = 6 ∨ (g = 0 ∧ c < b) ∨ (g = 0 ∧ b ≤ c ∧ 0 < a ∧ p ≤ q) ∨ (g = 0 ∧ b ≤ c ∧ a < 0 ∧ q ≤ p) ∨ (g = 0 ∧ b ≤ c ∧ 0 ≤ a ∧ a ≤ 0 ∧ p ≤ q ∧ q ≤ p)))) := by
  obtain ⟨p, e, h1, _, h2⟩ := mul_two ha hb
  obtain ⟨q, g, k1, _, k2⟩ := mul_two ha hc
  refine ⟨p, e, q, g, h1, k1, ?_⟩
  rcases h2 with rfl | ⟨rfl, hp, p1, p2⟩
  · exact Or.inl rfl
  · refine Or.inr ⟨rfl, p1, p2, by omega, by omega, ?_⟩
    rcases k2 with rfl | ⟨rfl, hq, _, _⟩
    · exact Or.inl rfl
    · right
      by_cases hbc : c < b
      · exact Or.inl ⟨rfl, hbc⟩
      · have h : b ≤ c := by omega
        right
        rcases Int.lt_trichotomy a 0 with h0 | h0 | h0
        · have := floor_anti (a := a) (by omega) h
          exact Or.inr (Or.inl ⟨rfl, h, h0, by omega⟩)
        · have := floor_anti (a := a) (by omega) h
          have := floor_mono (a := a) (by omega) h
          exact Or.inr (Or.inr ⟨rfl, h, by omega, by omega, by omega, by omega⟩)
        · have := floor_mono (a := a) (by omega) h
          exact Or.inl ⟨rfl, h, h0, by omega⟩

set_option maxHeartbeats 20000000 in
set_option maxRecDepth 100000 in
theorem walk (a b c : Int) (w0 : (Lit.int .i32 a).wf = true) (w1 : (Lit.int .i32 b).wf = true) (w2 : (Lit.int .i32 c).wf = true) (w : World) :
    Calls Try.prog 5 #[.int .i32 a, .int .i32 b, .int .i32 c] w fun e w' => e = .returned (.bool true) ∧ Below w.heap.size w w' := by
  have a0 := bounds_i32 w0
  have b0 := bounds_i32 w1
  have c0 := bounds_i32 w2
  have ka : okB a = true := okB_yes (by omega) (by omega)
  have kb : okB b = true := okB_yes (by omega) (by omega)
  have kc : okB c = true := okB_yes (by omega) (by omega)
  obtain ⟨m1, m2⟩ := mul_bound ka kb
  obtain ⟨p, e, q, g, gp, gq, hw⟩ := two_ways ka kb kc
  obtain ⟨d, h, gd, d1, d2, hd⟩ := div_ways ka kb
  obtain ⟨n1, n2⟩ := mul_bound (okB_yes d1 d2) kb
  have GP := Lib.hid gp
  have GQ := Lib.hid gq
  have GO := Lib.hid (mul_one ka)
  have GD := Lib.hid gd
  obtain ⟨a1, a2⟩ := a0
  obtain ⟨b1, b2⟩ := b0
  obtain ⟨c1, c2⟩ := c0
  clear w0 w1 w2 ka kb kc gp gq gd
  have eE : ((6 : Int) == 0) = false := by decide
  rcases hw with rfl | ⟨rfl, p1, p2, p3, p4, rfl | ⟨rfl, t1⟩ | ⟨rfl, t1, t2, t3⟩ | ⟨rfl, t1, t2, t3⟩ | ⟨rfl, t1, t2, t2', t3, t3'⟩⟩ <;>
    rcases hd with rfl | ⟨rfl, rfl⟩ | ⟨rfl, l1, l2, l3⟩ | ⟨rfl, l1, l2, l3⟩
  all_goals
    go_enter Try.func5, Try.ntmps5
    go_wp2_with fail
    refine (GP.out _).mono ?_
    rintro e w1 ⟨rfl, x1⟩
    have X1 := Lib.hid x1
    clear x1
    go_wp2_with fail
    refine (GO.out _).mono ?_
    rintro e w2 ⟨rfl, x2⟩
    have X2 := Lib.hid x2
    clear x2
    go_wp2_with fail
    refine (GQ.out _).mono ?_
    rintro e w3 ⟨rfl, x3⟩
    have X3 := Lib.hid x3
    clear x3
    go_wp2_with fail
    refine (GD.out _).mono ?_
    rintro e w4 ⟨rfl, x4⟩
    have X4 := Lib.hid x4
    clear x4
    go_wp2_with fail
    refine (alive_any _).mono ?_
    rintro e w5 ⟨rfl, x5⟩
    have X5 := Lib.hid x5
    clear x5
    go_wp2
    go_ret
    exact ⟨rfl, bthen (bthen (bthen (bthen X1.out X2.out) X3.out) X4.out) X5.out⟩

set_option maxRecDepth 100000 in
theorem lifted (os : Os) (started : os.Started) (H : Type) (enc : TypeId × Value → H) :
    ReturnsInHanded {} Try.checked os 5 .any (Rows.fixFloorsSpec.pre6 enc Try.prog Try.f5 Rows.fixFloorsRow.domain false) (Rows.fixFloorsSpec.post enc Try.prog Try.f5 false true false false) := by
  refine returnsInHanded_of_change (C := Try.checked) own started (by kernel_rfl) Try.func5
    (ChangeSpec.witness6 (enc := enc) (C := Try.checked) false ⟨#[], #[.int .i32 0, .int .i32 0, .int .i32 0], []⟩ 8 (by kernel_rfl) (by kernel_rfl) (by kernel_rfl) (by kernel_rfl)) ?_
  intro W base args ds gs before hval0 hW hcnd _
  have hval : ∀ (j : Nat) t v, Try.f5.params[j]? = some t → args[j]? = some v → Value.okWide Try.prog W .any base t v := hval0
  have hW' := hW
  obtain ⟨p, q, hA0, hV, rfl, hfz, hnd⟩ := hW
  have hA : DataW.TrodAll enc Try.prog W 0 (fun _ => true) true Try.f5.params.toList args.toList ds p := hA0
  rw [Try.params5] at hA hval
  obtain ⟨v0, vs0, d0, ds0, p0, q0, hargs, rfl, rfl, h0, r0⟩ := trodAll_cons hA
  obtain ⟨v1, vs1, d1, ds1, p1, q1, rfl, rfl, rfl, h1, r1⟩ := trodAll_cons r0
  obtain ⟨v2, vs2, d2, ds2, p2, q2, rfl, rfl, rfl, h2, r2⟩ := trodAll_cons r1
  obtain ⟨rfl, rfl, rfl⟩ := trodAll_nil r2
  obtain rfl : args = #[v0, v1, v2] := by cases args; simp_all
  obtain ⟨rfl, rfl⟩ := trodVars_none hV
  obtain ⟨a0, rfl, rfl, rfl, w0⟩ := open_int Try.underlying21 (hval 0 21 v0 rfl rfl) h0
  obtain ⟨a1, rfl, rfl, rfl, w1⟩ := open_int Try.underlying21 (hval 1 21 v1 rfl rfl) h1
  obtain ⟨a2, rfl, rfl, rfl, w2⟩ := open_int Try.underlying21 (hval 2 21 v2 rfl rfl) h2
  clear hA0 hval0
  refine (walk a0 a1 a2 w0 w1 w2 W).mono fun e W' ⟨he, bel⟩ => ?_
  subst he
  exact ⟨_, rfl, _, _, _, [], _, [], hW', trodAll_mk1 (shut_bool Try.underlying4 _), (trodAll_cons_mk (shut_int Try.underlying21 w0) (trodAll_cons_mk (shut_int Try.underlying21 w1) (trodAll_cons_mk (shut_int Try.underlying21 w2) trodAll_mk0))), rfl, bel.frame _, fun h => by cases h⟩

theorem over : Rows.fixFloorsRow.holds Try.pinned (OpenSpec.ofChange Rows.fixFloorsSpec) :=
  OpenClaim.holds_of_wide 5 Try.f5 rfl rfl rfl rfl rfl rfl rfl ⟨rfl, rfl, rfl, rfl, rfl⟩ rfl rfl rfl rfl rfl (by kernel_rfl) Try.func5 (by kernel_rfl)
    (of_decide_eq_true (by kernel_rfl)) (by unfold Func.isWrapper; first | (rw [if_pos (by decide +kernel)]; kernel_rfl) | (rw [if_neg (by decide +kernel)]; exact ⟨rfl, rfl⟩))
    (fun os started H enc _ => lifted os started H enc)

end Go.Proofs.Ytochehhdjgccoaa.fixFloors
namespace Go.Proofs.Ytochehhdjgccoaa
theorem fixFloors_holds : Rows.FixFloorsSaid := fixFloors.over
#print axioms fixFloors_holds
end Go.Proofs.Ytochehhdjgccoaa
