/-
  ExtractSlots answers true for every row of steps: behind any acts on a scene, and syncs, each record has a slot of its own below the scene's room, and one that was there ahead of a sync without an error, and is behind it, has the same slot. No conditions.
-/
import Derived.Test.YthhfcedhbfandaaGreatRows
import Derived.Test.YthhfcedhbfandaaGreatMS41
import Derived.Test.YthhfcedhbfandaaGreatMS45
import Derived.Test.YthhfcedhbfandaaGreatMS38
namespace Go.Proofs.YthhfcedhbfandaaGreat.extractSlots
open Go.ChangeShapes Go.WideShapes Go.ChangeAt Go.RowKit Go.Deep
set_option linter.unusedVariables false
theorem own : ownKnob Tryz.prog.godebug = none := by kernel_rfl
theorem laidOut : laidOutB Tryz.prog = true := by kernel_rfl
section
variable {EB : World → Nat → (Nat → Prop) → XS → Prop} {XB : World → Nat → (Nat → Prop) → Sc → Prop}
set_option maxRecDepth 100000 in
theorem lifted (hX : XC XB) (hE : EC EB XB) (os : Os) (started : os.Started) (H : Type) (enc : TypeId × Value → H) :
    ReturnsInHanded {} Tryz.checked os 5 .any (Rows.extractSlotsSpec.pre6 enc Tryz.prog Tryz.f5 Rows.extractSlotsRow.domain false) (Rows.extractSlotsSpec.post enc Tryz.prog Tryz.f5 false true false false) := by
  refine returnsInHanded_of_change (C := Tryz.checked) own started (by kernel_rfl) Tryz.func5
    (ChangeSpec.witness6 (enc := enc) (C := Tryz.checked) false ⟨#[], #[.slice none 0 0], []⟩ 8 (by kernel_rfl) (by kernel_rfl) (by kernel_rfl) (by kernel_rfl)) ?_
  intro W base args ds gs before hval0 hW hcnd _
  have hval : ∀ (j : Nat) t v, Tryz.f5.params[j]? = some t → args[j]? = some v → Value.okWide Tryz.prog W .any base t v := hval0
  have hW' := hW
  obtain ⟨p, q, hA0, hV, rfl, hfz, hnd⟩ := hW
  have hA : DataW.TrodAll enc Tryz.prog W 0 (fun _ => true) true Tryz.f5.params.toList args.toList ds p := hA0
  rw [Tryz.params5] at hA hval
  obtain ⟨v0, vs0, d0, ds0, p0, q0, hargs, rfl, rfl, h0, r0⟩ := trodAll_cons hA
  obtain ⟨rfl, rfl, rfl⟩ := trodAll_nil r0
  obtain rfl : args = #[v0] := by cases args; simp_all
  obtain ⟨rfl, rfl⟩ := trodVars_none hV
  obtain ⟨a0, len0, cap0, rfl⟩ := okWide_slice Tryz.underlying22 (hval 0 22 v0 rfl rfl)
  have k0 := h0
  have lt0 : ∀ x ∈ p0, x.block < W.heap.size := by obtain ⟨m, hm⟩ := k0; exact DataW.trod_lt m _ _ _ hm
  obtain ⟨As, row⟩ : ∃ As, ARow13 W a0 len0 As := by
    obtain ⟨fuel, hf⟩ := h0
    exact open_steps13 (by simpa [Value.cells] using hf)
  clear hA0 hval0
  refine (slots13_yes hX hE a0 len0 cap0 As W row).mono fun e W' ⟨he, bel⟩ => ?_
  subst he
  exact ⟨_, rfl, _, _, _, [], _, [], hW', trodAll_mk1 (shut_bool Tryz.underlying4 _), (trodAll_cons_mk (Below.trod laidOut (by kernel_rfl) (of_decide_eq_true (by kernel_rfl)) k0 bel lt0) trodAll_mk0), rfl, bel.frame _, fun h => by cases h⟩

theorem over (hX : XC XB) (hE : EC EB XB) : Rows.extractSlotsRow.holds Tryz.pinned (OpenSpec.ofChange Rows.extractSlotsSpec) :=
  OpenClaim.holds_of_wide 5 Tryz.f5 rfl rfl rfl rfl rfl rfl rfl ⟨rfl, rfl, rfl, rfl, rfl⟩ rfl rfl rfl rfl rfl (by kernel_rfl) Tryz.func5 closed
    (of_decide_eq_true (by kernel_rfl)) (by unfold Func.isWrapper; first | (rw [if_pos (by decide +kernel)]; kernel_rfl) | (rw [if_neg (by decide +kernel)]; exact ⟨rfl, rfl⟩))
    (fun os started H enc _ => lifted hX hE os started H enc)
end
end Go.Proofs.YthhfcedhbfandaaGreat.extractSlots
namespace Go.Proofs.YthhfcedhbfandaaGreat
theorem extractSlots_holds : Rows.ExtractSlotsSaid := extractSlots.over xc_holds (ec_holds xc_holds fwe_holds)
#print axioms extractSlots_holds
end Go.Proofs.YthhfcedhbfandaaGreat
