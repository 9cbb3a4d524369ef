/-
  VecOf answers true for every three whole numbers: Of answers what the document says, or the error. No conditions.
-/
import Derived.Test.YtcmliidkkgkgcaaRows
import Derived.Test.YtcmliidkkgkgcaaVecL
import Derived.WalkKit
import Derived.ProofKit
import Derived.OpenShut
import Derived.ShutString
import Derived.ChangeOld
import Derived.Below
namespace Go.Proofs.Ytcmliidkkgkgcaa.vecOf
open Go.ChangeShapes Go.WideShapes Go.ChangeAt Go.RowKit
set_option linter.unusedVariables false

theorem own : ownKnob Try.prog.godebug = none := by kernel_rfl

/-- what Of answers, of the program and of the reference, in two ways -/
theorem of_two (n : Int) : (ofE n = 0) ∨ (ofE n = 6) := by
  unfold ofE
  by_cases h : ofB n = true
  · exact .inl (by rw [if_pos h])
  · exact .inr (by rw [if_neg h])

/-- the reference's answer, its error named -/
def RefOf (n v e : Int) : Prop := ∀ w, Calls Try.prog 21 #[.int .i64 n] w fun x w' => x = .returned (.tuple #[.int .i64 v, .int .i64 e]) ∧ w = w'

set_option maxHeartbeats 2000000 in
theorem walk_gen (x y z vx vy vz ex ey ez a b c E : Int) (w : World)
    (ho : ∀ w, Calls Try.prog 20 #[.int .i64 x, .int .i64 y, .int .i64 z] w fun e w' => e = .returned (.tuple #[.agg #[.int .i64 a, .int .i64 b, .int .i64 c], .int .i64 E]) ∧ Below w.heap.size w w')
    (hx : RefOf x vx ex) (hy : RefOf y vy ey) (hz : RefOf z vz ez)
    (h : (ex = 0 ∧ ey = 0 ∧ ez = 0 ∧ E = 0 ∧ a = vx ∧ b = vy ∧ c = vz) ∨ (E = 6 ∧ a = 0 ∧ b = 0 ∧ c = 0 ∧ ((ex = 6 ∧ ey = 0 ∧ ez = 0) ∨ (ex = 0 ∧ ey = 6 ∧ ez = 0) ∨ (ex = 0 ∧ ey = 0 ∧ ez = 6) ∨ (ex = 6 ∧ ey = 6 ∧ ez = 0) ∨ (ex = 6 ∧ ey = 0 ∧ ez = 6) ∨ (ex = 0 ∧ ey = 6 ∧ ez = 6) ∨ (ex = 6 ∧ ey = 6 ∧ ez = 6)))) :
    Calls Try.prog 4 #[.int .i64 x, .int .i64 y, .int .i64 z] w fun e w' => e = .returned (.bool true) ∧ Below w.heap.size w w' := by
  have HO := Lib.hid ho
  have HX := Lib.hid hx
  have HY := Lib.hid hy
  have HZ := Lib.hid hz
  clear ho hx hy hz
  have heq := eqVec
  rcases h with ⟨rfl, rfl, rfl, rfl, rfl, rfl, rfl⟩ | ⟨rfl, rfl, rfl, rfl, ⟨rfl, rfl, rfl⟩ | ⟨rfl, rfl, rfl⟩ | ⟨rfl, rfl, rfl⟩ | ⟨rfl, rfl, rfl⟩ | ⟨rfl, rfl, rfl⟩ | ⟨rfl, rfl, rfl⟩ | ⟨rfl, rfl, rfl⟩⟩
  all_goals
    go_enter Try.func4, Try.ntmps4
    go_wp2_with fail
    refine (HO.out _).mono ?_
    rintro e w1 ⟨rfl, b1⟩
    have B1 := Lib.hid b1
    clear b1
    go_wp2
    refine wp_loop_rounds 4 ?_
    rw [rounds_succ]
    go_wp2_with fail
    refine (HX.out _).mono ?_
    rintro e w2 ⟨rfl, rfl⟩
    go_wp2
    rw [rounds_succ]
    go_wp2_with fail
    refine (HY.out _).mono ?_
    rintro e w2 ⟨rfl, rfl⟩
    go_wp2
    rw [rounds_succ]
    go_wp2_with fail
    refine (HZ.out _).mono ?_
    rintro e w2 ⟨rfl, rfl⟩
    go_wp2
    rw [rounds_succ]
    go_wp2_with fail
    refine (valive_any _).mono ?_
    rintro e w2 ⟨rfl, b2⟩
    have k2 := Lib.hid ((((Blk.new w1 25 _).alloc _).alloc _).keep b2)
    have l2 := Lib.hid (blkAt ((Blk.new ((w1.alloc _).alloc _) 25 _).keep b2) (g' := w1.heap.size + 1 + 1) (by simp))
    have B2 := Lib.hid (bthen (balloc (balloc (balloc B1.out _) _) _) b2)
    clear b2
    obtain ⟨c20, c21, c22, _, _, _⟩ := blk3 k2.out
    obtain ⟨d20, d21, d22, _, _, _⟩ := blk3 l2.out
    go_wp2
    go_ret
    exact ⟨rfl, B2.out⟩

theorem walk (x y z : Int) (w : World) :
    Calls Try.prog 4 #[.int .i64 x, .int .i64 y, .int .i64 z] w fun e w' => e = .returned (.bool true) ∧ Below w.heap.size w w' := by
  refine walk_gen x y z (ofV x) (ofV y) (ofV z) (ofE x) (ofE y) (ofE z) (gate (vofE x y z) (ofV x)) (gate (vofE x y z) (ofV y)) (gate (vofE x y z) (ofV z)) (vofE x y z) w (fun w => vof_any x y z w) (fun w => rof_any x w) (fun w => rof_any y w) (fun w => rof_any z w) ?_
  rcases of_two x with hx | hx <;> rcases of_two y with hy | hy <;> rcases of_two z with hz | hz
  all_goals
    have he : vofE x y z = first3 (ofE x) (ofE y) (ofE z) := rfl
    rw [hx, hy, hz] at he
    simp [first3] at he
    rw [he, hx, hy, hz]
    simp [gate]

set_option maxRecDepth 100000 in
theorem lifted (os : Os) (started : os.Started) (H : Type) (enc : TypeId × Value → H) :
    ReturnsInHanded {} Try.checked os 4 .any (Rows.vecOfSpec.pre6 enc Try.prog Try.f4 Rows.vecOfRow.domain false) (Rows.vecOfSpec.post enc Try.prog Try.f4 false true false false) := by
  refine returnsInHanded_of_change (C := Try.checked) own started (by kernel_rfl) Try.func4
    (ChangeSpec.witness6 (enc := enc) (C := Try.checked) false ⟨#[], #[.int .i64 0, .int .i64 0, .int .i64 0], []⟩ 8 (by kernel_rfl) (by kernel_rfl) (by kernel_rfl) (by kernel_rfl)) ?_
  intro W base args ds gs before hval0 hW hcnd _
  have hval : ∀ (j : Nat) t v, Try.f4.params[j]? = some t → args[j]? = some v → Value.okWide Try.prog W .any base t v := hval0
  have hW' := hW
  obtain ⟨p, q, hA0, hV, rfl, hfz, hnd⟩ := hW
  have hA : DataW.TrodAll enc Try.prog W 0 (fun _ => true) true Try.f4.params.toList args.toList ds p := hA0
  rw [Try.params4] at hA hval
  obtain ⟨v0, vs0, d0, ds0, p0, q0, hargs, rfl, rfl, h0, r0⟩ := trodAll_cons hA
  obtain ⟨v1, vs1, d1, ds1, p1, q1, rfl, rfl, rfl, h1, r1⟩ := trodAll_cons r0
  obtain ⟨v2, vs2, d2, ds2, p2, q2, rfl, rfl, rfl, h2, r2⟩ := trodAll_cons r1
  obtain ⟨rfl, rfl, rfl⟩ := trodAll_nil r2
  obtain rfl : args = #[v0, v1, v2] := by cases args; simp_all
  obtain ⟨rfl, rfl⟩ := trodVars_none hV
  obtain ⟨a0, rfl, rfl, rfl, w0⟩ := open_int Try.underlying3 (hval 0 3 v0 rfl rfl) h0
  obtain ⟨a1, rfl, rfl, rfl, w1⟩ := open_int Try.underlying3 (hval 1 3 v1 rfl rfl) h1
  obtain ⟨a2, rfl, rfl, rfl, w2⟩ := open_int Try.underlying3 (hval 2 3 v2 rfl rfl) h2
  clear hA0 hval0
  refine (walk a0 a1 a2 W).mono fun e W' ⟨he, bel⟩ => ?_
  subst he
  exact ⟨_, rfl, _, _, _, [], _, [], hW', trodAll_mk1 (shut_bool Try.underlying4 _), (trodAll_cons_mk (shut_int Try.underlying3 w0) (trodAll_cons_mk (shut_int Try.underlying3 w1) (trodAll_cons_mk (shut_int Try.underlying3 w2) trodAll_mk0))), rfl, bel.frame _, fun h => by cases h⟩

theorem over : Rows.vecOfRow.holds Try.pinned (OpenSpec.ofChange Rows.vecOfSpec) :=
  OpenClaim.holds_of_wide 4 Try.f4 rfl rfl rfl rfl rfl rfl rfl ⟨rfl, rfl, rfl, rfl, rfl⟩ rfl rfl rfl rfl rfl (by kernel_rfl) Try.func4 (by kernel_rfl)
    (of_decide_eq_true (by kernel_rfl)) (by unfold Func.isWrapper; first | (rw [if_pos (by decide +kernel)]; kernel_rfl) | (rw [if_neg (by decide +kernel)]; exact ⟨rfl, rfl⟩))
    (fun os started H enc _ => lifted os started H enc)

end Go.Proofs.Ytcmliidkkgkgcaa.vecOf
namespace Go.Proofs.Ytcmliidkkgkgcaa
theorem vecOf_holds : Rows.VecOfSaid := vecOf.over
#print axioms vecOf_holds
end Go.Proofs.Ytcmliidkkgkgcaa
