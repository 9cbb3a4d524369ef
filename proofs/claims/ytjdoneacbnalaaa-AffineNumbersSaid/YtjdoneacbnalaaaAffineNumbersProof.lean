/-
  AffineNumbers answers true for every three matrices of small whole numbers, every matrix and every vector: brackets do not matter, a product applied is one applied behind the other, and what leaves all leaves all. No conditions.
-/
import Derived.Test.YtjdoneacbnalaaaRows
import Derived.Test.YtjdoneacbnalaaaAffNW
import Derived.WalkKit
import Derived.ProofKit
import Derived.OpenShut
import Derived.ShutString
import Derived.ChangeOld
import Derived.Below
import Derived.Deep.Cut
import Derived.Deep.CutRange
namespace Go.Proofs.Ytjdoneacbnalaaa.affineNumbers
open Go.ChangeShapes Go.WideShapes Go.ChangeAt Go.RowKit
set_option linter.unusedVariables false


theorem wh_ok {a : Nat → Int} (h : ∀ k, k < 12 → -128 ≤ a k ∧ a k ≤ 127) : okM (whM a) = true := okM_of fun k hk => by
  have := h k hk
  unfold whM
  exact okB_yes (by omega) (by omega)

theorem walk (a b c m v : Nat → Int) (w : World) (ha : ∀ k, k < 12 → -128 ≤ a k ∧ a k ≤ 127) (hb : ∀ k, k < 12 → -128 ≤ b k ∧ b k ≤ 127) (hc : ∀ k, k < 12 → -128 ≤ c k ∧ c k ≤ 127) :
    Calls Try.prog 5 #[.agg #[.int .i8 (a 0), .int .i8 (a 1), .int .i8 (a 2), .int .i8 (a 3), .int .i8 (a 4), .int .i8 (a 5), .int .i8 (a 6), .int .i8 (a 7), .int .i8 (a 8), .int .i8 (a 9), .int .i8 (a 10), .int .i8 (a 11), .int .i8 (b 0), .int .i8 (b 1), .int .i8 (b 2), .int .i8 (b 3), .int .i8 (b 4), .int .i8 (b 5), .int .i8 (b 6), .int .i8 (b 7), .int .i8 (b 8), .int .i8 (b 9), .int .i8 (b 10), .int .i8 (b 11), .int .i8 (c 0), .int .i8 (c 1), .int .i8 (c 2), .int .i8 (c 3), .int .i8 (c 4), .int .i8 (c 5), .int .i8 (c 6), .int .i8 (c 7), .int .i8 (c 8), .int .i8 (c 9), .int .i8 (c 10), .int .i8 (c 11)], .agg #[.int .i64 (m 0), .int .i64 (m 1), .int .i64 (m 2), .int .i64 (m 3), .int .i64 (m 4), .int .i64 (m 5), .int .i64 (m 6), .int .i64 (m 7), .int .i64 (m 8), .int .i64 (m 9), .int .i64 (m 10), .int .i64 (m 11)], .agg #[.int .i64 (v 0), .int .i64 (v 1), .int .i64 (v 2)]] w fun e w' => e = .returned (.bool true) ∧ Below w.heap.size w w' := by
  have oA := wh_ok ha
  have oB := wh_ok hb
  have oC := wh_ok hc
  have WA : Wh (whM a) a := fun k _ => rfl
  have WB : Wh (whM b) b := fun k _ => rfl
  have WC : Wh (whM c) c := fun k _ => rfl
  have WX : Wv (v3 (whM c 0) (whM c 5) (whM c 10)) (v3 (c 0) (c 5) (c 10)) := fun k hk => by
    obtain rfl | rfl | rfl : k = 0 ∨ k = 1 ∨ k = 2 := by omega
    · rfl
    · rfl
    · rfl
  refine walk_gen a b c (whM a) (whM b) (whM c) (mulMs [whM a, whM b]).1 (mulMs [whM b, whM c]).1 (mulMs [(mulMs [whM a, whM b]).1, whM c]).1 (mulMs [whM a, (mulMs [whM b, whM c]).1]).1
    (appV (mulMs [whM a, whM b]).1 (v3 (whM c 0) (whM c 5) (whM c 10))) (appV (whM b) (v3 (whM c 0) (whM c 5) (whM c 10))) (appV (whM a) (appV (whM b) (v3 (whM c 0) (whM c 5) (whM c 10)))) m v
    (mulMs [whM a, whM b]).2 (mulMs [whM b, whM c]).2 (mulMs [(mulMs [whM a, whM b]).1, whM c]).2 (mulMs [whM a, (mulMs [whM b, whM c]).1]).2
    (appE (mulMs [whM a, whM b]).1 (v3 (whM c 0) (whM c 5) (whM c 10))) (appE (whM b) (v3 (whM c 0) (whM c 5) (whM c 10))) (appE (whM a) (appV (whM b) (v3 (whM c 0) (whM c 5) (whM c 10)))) w
    (fun w' => mat_any a w' ha) (fun w' => mat_any b w' hb) (fun w' => mat_any c w' hc)
    (fun w' s hr => mmul_any s 2 2 _ w' hr (by omega) (by omega)) (fun w' s hr => mmul_any s 2 2 _ w' hr (by omega) (by omega)) (fun w' s hr => mmul_any s 2 2 _ w' hr (by omega) (by omega)) (fun w' s hr => mmul_any s 2 2 _ w' hr (by omega) (by omega))
    (fun w' => apply_any _ (v3 (whM c 0) (whM c 5) (whM c 10)) w') (fun w' => apply_any _ (v3 (whM c 0) (whM c 5) (whM c 10)) w') (fun w' => apply_any _ _ w')
    (fun e f g h => brackets WA WB WC oA oB oC e f g h) (fun e i j k => behind WA WB WX oA oB e i j k) ?_
    (fun om w' s hr => (mmul_any s 2 2 _ w' hr (by omega) (by omega)).mono fun _ _ ⟨he, hw⟩ => ⟨by rw [he, (same_ahead om).1, (same_ahead om).2 0 (by omega), (same_ahead om).2 1 (by omega), (same_ahead om).2 2 (by omega), (same_ahead om).2 3 (by omega), (same_ahead om).2 4 (by omega), (same_ahead om).2 5 (by omega), (same_ahead om).2 6 (by omega), (same_ahead om).2 7 (by omega), (same_ahead om).2 8 (by omega), (same_ahead om).2 9 (by omega), (same_ahead om).2 10 (by omega), (same_ahead om).2 11 (by omega)], hw⟩)
    (fun om w' s hr => (mmul_any s 2 2 _ w' hr (by omega) (by omega)).mono fun _ _ ⟨he, hw⟩ => ⟨by rw [he, (same_behind om).1, (same_behind om).2 0 (by omega), (same_behind om).2 1 (by omega), (same_behind om).2 2 (by omega), (same_behind om).2 3 (by omega), (same_behind om).2 4 (by omega), (same_behind om).2 5 (by omega), (same_behind om).2 6 (by omega), (same_behind om).2 7 (by omega), (same_behind om).2 8 (by omega), (same_behind om).2 9 (by omega), (same_behind om).2 10 (by omega), (same_behind om).2 11 (by omega)], hw⟩)
    (fun ov w' => (apply_any sameM v w').mono fun _ _ ⟨he, hw⟩ => ⟨by rw [he, (same_app ov).1, (same_app ov).2 0 (by omega), (same_app ov).2 1 (by omega), (same_app ov).2 2 (by omega)], hw⟩)
  cases okM m <;> cases okV3 v <;> simp

/-- an array of three arrays of twelve small numbers -/
theorem open_wholes {H : Type} {enc : TypeId × Value → H} {w : World} {base : Nat} {spare : Nat → Bool} {held : Bool} {r : Reach} {b0 : Nat} {x : Value} {d : DataW H} {p : List MemPlace} (hv : Value.okWide Try.prog w r b0 45 x) (h : DataW.Trod enc Try.prog w base spare held 45 x d p) :
    ∃ a b c : Nat → Int, x = .agg #[.int .i8 (a 0), .int .i8 (a 1), .int .i8 (a 2), .int .i8 (a 3), .int .i8 (a 4), .int .i8 (a 5), .int .i8 (a 6), .int .i8 (a 7), .int .i8 (a 8), .int .i8 (a 9), .int .i8 (a 10), .int .i8 (a 11), .int .i8 (b 0), .int .i8 (b 1), .int .i8 (b 2), .int .i8 (b 3), .int .i8 (b 4), .int .i8 (b 5), .int .i8 (b 6), .int .i8 (b 7), .int .i8 (b 8), .int .i8 (b 9), .int .i8 (b 10), .int .i8 (b 11), .int .i8 (c 0), .int .i8 (c 1), .int .i8 (c 2), .int .i8 (c 3), .int .i8 (c 4), .int .i8 (c 5), .int .i8 (c 6), .int .i8 (c 7), .int .i8 (c 8), .int .i8 (c 9), .int .i8 (c 10), .int .i8 (c 11)] ∧ (∀ k, k < 12 → -128 ≤ a k ∧ a k ≤ 127) ∧ (∀ k, k < 12 → -128 ≤ b k ∧ b k ≤ 127) ∧ (∀ k, k < 12 → -128 ≤ c k ∧ c k ≤ 127) := by
  obtain ⟨cs, rfl, hs⟩ := okWide_arr Try.underlying45 hv
  rw [show Try.prog.cellsOf 45 = 36 by kernel_rfl] at hs
  obtain ⟨fuel, hf⟩ := h
  obtain ⟨xs, n, _, _, _, hxl, hx⟩ := DataW.trod_array Try.underlying45 hf
  rw [show Try.prog.cellsOf 44 = 12 by kernel_rfl] at hx
  obtain ⟨l⟩ := cs
  have hl : l.length = 36 := by simpa using hs
  have one : ∀ i, i < 3 → ∃ M : Nat → Int, (l.drop (i * 12)).take 12 = [.int .i8 (M 0), .int .i8 (M 1), .int .i8 (M 2), .int .i8 (M 3), .int .i8 (M 4), .int .i8 (M 5), .int .i8 (M 6), .int .i8 (M 7), .int .i8 (M 8), .int .i8 (M 9), .int .i8 (M 10), .int .i8 (M 11)] ∧ ∀ k, k < 12 → -128 ≤ M k ∧ M k ≤ 127 := fun i hi => by
    have e0 : xs[i]? = some (xs[i]'(by omega)) := List.getElem?_eq_getElem (by omega)
    have hxi := (hx i hi).trans e0
    obtain ⟨M, hM⟩ := open_nums Try.underlying44 Try.underlying42 (by kernel_rfl) hxi
    refine ⟨M, list12 (k := .i8) (by simp; omega) (fun j hj => by simpa [Value.cells] using (hM j hj).1), fun k hk => ?_⟩
    have h2 : IntKind.i8.min ≤ M k ∧ M k ≤ IntKind.i8.max := by simpa [Lit.wf] using (hM k hk).2
    exact h2
  obtain ⟨a, ea, wa⟩ := one 0 (by omega)
  obtain ⟨b, eb, wb⟩ := one 1 (by omega)
  obtain ⟨c, ec, wc⟩ := one 2 (by omega)
  refine ⟨a, b, c, ?_, wa, wb, wc⟩
  have el : l = (l.drop (0 * 12)).take 12 ++ ((l.drop (1 * 12)).take 12 ++ (l.drop (2 * 12)).take 12) := by
    rw [List.take_of_length_le (l := l.drop (2 * 12)) (by simp; omega)]
    rw [show (2 * 12 : Nat) = 1 * 12 + 12 from rfl, ← List.drop_drop, List.take_append_drop]
    rw [show (1 * 12 : Nat) = 0 * 12 + 12 from rfl, ← List.drop_drop, List.take_append_drop]
    rfl
  rw [el, ea, eb, ec]
  rfl

set_option maxRecDepth 100000 in
theorem lifted (os : Os) (started : os.Started) (H : Type) (enc : TypeId × Value → H) :
    ReturnsInHanded {} Try.checked os 5 .any (Rows.affineNumbersSpec.pre6 enc Try.prog Try.f5 Rows.affineNumbersRow.domain false) (Rows.affineNumbersSpec.post enc Try.prog Try.f5 false true false false) := by
  refine returnsInHanded_of_change (C := Try.checked) own started (by kernel_rfl) Try.func5
    (ChangeSpec.witness6 (enc := enc) (C := Try.checked) false ⟨#[], #[.agg #[.int .i8 0, .int .i8 0, .int .i8 0, .int .i8 0, .int .i8 0, .int .i8 0, .int .i8 0, .int .i8 0, .int .i8 0, .int .i8 0, .int .i8 0, .int .i8 0, .int .i8 0, .int .i8 0, .int .i8 0, .int .i8 0, .int .i8 0, .int .i8 0, .int .i8 0, .int .i8 0, .int .i8 0, .int .i8 0, .int .i8 0, .int .i8 0, .int .i8 0, .int .i8 0, .int .i8 0, .int .i8 0, .int .i8 0, .int .i8 0, .int .i8 0, .int .i8 0, .int .i8 0, .int .i8 0, .int .i8 0, .int .i8 0], .agg #[.int .i64 0, .int .i64 0, .int .i64 0, .int .i64 0, .int .i64 0, .int .i64 0, .int .i64 0, .int .i64 0, .int .i64 0, .int .i64 0, .int .i64 0, .int .i64 0], .agg #[.int .i64 0, .int .i64 0, .int .i64 0]], []⟩ 8 (by kernel_rfl) (by kernel_rfl) (by kernel_rfl) (by kernel_rfl)) ?_
  intro W base args ds gs before hval0 hW hcnd _
  have hval : ∀ (j : Nat) t v, Try.f5.params[j]? = some t → args[j]? = some v → Value.okWide Try.prog W .any base t v := hval0
  have hW' := hW
  obtain ⟨p, q, hA0, hV, rfl, hfz, hnd⟩ := hW
  have hA : DataW.TrodAll enc Try.prog W 0 (fun _ => true) true Try.f5.params.toList args.toList ds p := hA0
  rw [Try.params5] at hA hval
  obtain ⟨v0, vs0, d0, ds0, p0, q0, hargs, rfl, rfl, h0, r0⟩ := trodAll_cons hA
  obtain ⟨v1, vs1, d1, ds1, p1, q1, rfl, rfl, rfl, h1, r1⟩ := trodAll_cons r0
  obtain ⟨v2, vs2, d2, ds2, p2, q2, rfl, rfl, rfl, h2, r2⟩ := trodAll_cons r1
  obtain ⟨rfl, rfl, rfl⟩ := trodAll_nil r2
  obtain rfl : args = #[v0, v1, v2] := by cases args; simp_all
  obtain ⟨rfl, rfl⟩ := trodVars_none hV
  have k0 := h0
  have lt0 : ∀ x ∈ p0, x.block < W.heap.size := by obtain ⟨m, hm⟩ := k0; exact DataW.trod_lt m _ _ _ hm
  obtain ⟨a, b, c, rfl, wa, wb, wc⟩ := open_wholes (hval 0 45 v0 rfl rfl) h0
  have k1 := h1
  have lt1 : ∀ x ∈ p1, x.block < W.heap.size := by obtain ⟨m, hm⟩ := k1; exact DataW.trod_lt m _ _ _ hm
  obtain ⟨M, rfl⟩ := open_mat (hval 1 25 v1 rfl rfl) h1
  have k2 := h2
  have lt2 : ∀ x ∈ p2, x.block < W.heap.size := by obtain ⟨m, hm⟩ := k2; exact DataW.trod_lt m _ _ _ hm
  obtain ⟨V, rfl⟩ := open_vec3 (hval 2 27 v2 rfl rfl) h2
  clear hA0 hval0
  refine (walk a b c M V W wa wb wc).mono fun e W' ⟨he, bel⟩ => ?_
  subst he
  exact ⟨_, rfl, _, _, _, [], _, [], hW', trodAll_mk1 (shut_bool Try.underlying4 _), (trodAll_cons_mk (Below.trod laidOut (by kernel_rfl) (of_decide_eq_true (by kernel_rfl)) k0 bel lt0) (trodAll_cons_mk (Below.trod laidOut (by kernel_rfl) (of_decide_eq_true (by kernel_rfl)) k1 bel lt1) (trodAll_cons_mk (Below.trod laidOut (by kernel_rfl) (of_decide_eq_true (by kernel_rfl)) k2 bel lt2) trodAll_mk0))), rfl, bel.frame _, fun h => by cases h⟩

theorem over : Rows.affineNumbersRow.holds Try.pinned (OpenSpec.ofChange Rows.affineNumbersSpec) :=
  OpenClaim.holds_of_wide 5 Try.f5 rfl rfl rfl rfl rfl rfl rfl ⟨rfl, rfl, rfl, rfl, rfl⟩ rfl rfl rfl rfl rfl (by kernel_rfl) Try.func5 (by kernel_rfl)
    (of_decide_eq_true (by kernel_rfl)) (by unfold Func.isWrapper; first | (rw [if_pos (by decide +kernel)]; kernel_rfl) | (rw [if_neg (by decide +kernel)]; exact ⟨rfl, rfl⟩))
    (fun os started H enc _ => lifted os started H enc)

end Go.Proofs.Ytjdoneacbnalaaa.affineNumbers
namespace Go.Proofs.Ytjdoneacbnalaaa
theorem affineNumbers_holds : Rows.AffineNumbersSaid := affineNumbers.over
#print axioms affineNumbers_holds
end Go.Proofs.Ytjdoneacbnalaaa
