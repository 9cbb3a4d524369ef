/-
  2 texts in one file, each with its own heading.
-/
import Derived.Test.YtkondkajpmafkaaGreatRows
import Derived.Test.YtkondkajpmafkaaGreatMT51
import Derived.Test.YtkondkajpmafkaaGreatMT49
/-
  ScenePlays for any package that answers as the bundles say: the arguments opened, the statement lifted.
-/
namespace Go.Proofs.YtkondkajpmafkaaGreat
open Go.ChangeShapes Go.WideShapes Go.ChangeAt Go.RowKit Go.Deep
set_option linter.unusedVariables false

instance : Inhabited A11 := ⟨⟨0, 0, 0, zT, none, 0, 0, []⟩⟩
section
variable {H : Type} {enc : TypeId × Value → H} {w : World} {base : Nat} {held : Bool}
theorem act_open11 {fuel : Nat} {cs : List Value} {x : DataW H × List MemPlace} (hl : cs.length = 28) (h : DataW.trod enc Tryz.prog w base (fun _ => true) held fuel 46 cs = some x) : ∃ a : A11, cs = c11 a ∧ ok11 w a := by
  obtain ⟨xs, n, _, _, _, hxl, hx⟩ := DataW.trod_struct Tryz.underlying46 h
  have hxl2 : xs.length = 5 := hxl
  have hc0 : Tryz.prog.cellsOf 5 = 1 := by kernel_rfl
  have f0 : DataW.trod enc Tryz.prog w base (fun _ => true) held n 5 ((cs.drop 0).take 1) = some (xs[0]'(by omega)) := by
    have := (hx 0 _ rfl).trans (List.getElem?_eq_getElem (show 0 < xs.length by omega))
    exact (congrArg (fun c => DataW.trod enc Tryz.prog w base (fun _ => true) held n 5 ((cs.drop 0).take c)) hc0.symm).trans this
  have f1 : DataW.trod enc Tryz.prog w base (fun _ => true) held n 5 ((cs.drop 1).take 1) = some (xs[1]'(by omega)) := by
    have := (hx 1 _ rfl).trans (List.getElem?_eq_getElem (show 1 < xs.length by omega))
    exact (congrArg (fun c => DataW.trod enc Tryz.prog w base (fun _ => true) held n 5 ((cs.drop 1).take c)) hc0.symm).trans this
  have f2 : DataW.trod enc Tryz.prog w base (fun _ => true) held n 5 ((cs.drop 2).take 1) = some (xs[2]'(by omega)) := by
    have := (hx 2 _ rfl).trans (List.getElem?_eq_getElem (show 2 < xs.length by omega))
    exact (congrArg (fun c => DataW.trod enc Tryz.prog w base (fun _ => true) held n 5 ((cs.drop 2).take c)) hc0.symm).trans this
  have hc4 : Tryz.prog.cellsOf 43 = 24 := by kernel_rfl
  have f4 : DataW.trod enc Tryz.prog w base (fun _ => true) held n 43 ((cs.drop 3).take 24) = some (xs[3]'(by omega)) := by
    have := (hx 3 _ rfl).trans (List.getElem?_eq_getElem (show 3 < xs.length by omega))
    exact (congrArg (fun c => DataW.trod enc Tryz.prog w base (fun _ => true) held n 43 ((cs.drop 3).take c)) hc4.symm).trans this
  have hc5 : Tryz.prog.cellsOf 44 = 1 := by kernel_rfl
  have f5 : DataW.trod enc Tryz.prog w base (fun _ => true) held n 44 ((cs.drop 27).take 1) = some (xs[4]'(by omega)) := by
    have := (hx 4 _ rfl).trans (List.getElem?_eq_getElem (show 4 < xs.length by omega))
    exact (congrArg (fun c => DataW.trod enc Tryz.prog w base (fun _ => true) held n 44 ((cs.drop 27).take c)) hc5.symm).trans this
  obtain ⟨v0, e0, _, w0⟩ := DataW.trod_int Tryz.underlying5 f0
  obtain ⟨v1, e1, _, w1⟩ := DataW.trod_int Tryz.underlying5 f1
  obtain ⟨v2, e2, _, w2⟩ := DataW.trod_int Tryz.underlying5 f2
  obtain ⟨P, hP⟩ := parts_open (by rw [List.length_take, List.length_drop]; omega) f4
  obtain ⟨ka, kl, kc, ks, e5, hrow⟩ := open_kinds8 f5
  refine ⟨⟨v0, v1, v2, P, ka, kl, kc, ks⟩, ?_, (bounds_u8 w0).1, (bounds_u8 w0).2, (bounds_u8 w1).1, (bounds_u8 w1).2, (bounds_u8 w2).1, (bounds_u8 w2).2, hrow⟩
  have d0 : cs = (cs.drop 0).take 1 ++ ((cs.drop 1).take 1 ++ ((cs.drop 2).take 1 ++ ((cs.drop 3).take 24 ++ (cs.drop 27).take 1))) := by
    have a5 : (cs.drop 27).take 1 = cs.drop 27 := List.take_of_length_le (by rw [List.length_drop]; omega)
    have st : ∀ o k, (cs.drop o).take k ++ cs.drop (o + k) = cs.drop o := fun o k => by
      have := List.take_append_drop k (cs.drop o)
      rwa [List.drop_drop] at this
    rw [a5, st 3 24, st 2 1, st 1 1, st 0 1, List.drop_zero]
  rw [d0, e0, e1, e2, hP, e5]
  rfl
theorem open_acts11 {fuel : Nat} {a : Option Addr} {len cap : Nat} {x : DataW H × List MemPlace} (h : DataW.trod enc Tryz.prog w base (fun _ => true) held fuel 22 [.slice a len cap] = some x) : ∃ As, ARow11 w a len As := by
  rcases open_slice Tryz.underlying22 h with ⟨hcs, _⟩ | ⟨ad, l, c, m, n, D, Pl, hcs, _, hlc, hm, hmm, _, hi⟩
  · simp at hcs
    obtain ⟨rfl, rfl, rfl⟩ := hcs
    exact ⟨[], rfl, by omega, .inl rfl⟩
  · simp at hcs
    obtain ⟨rfl, rfl, rfl⟩ := hcs
    unfold maxLen at hm
    have hC : Tryz.prog.cellsOf 46 = 28 := by kernel_rfl
    rw [hC] at hi
    simp only [if_true] at hmm
    subst hmm
    obtain ⟨V, hV⟩ := choose_lt (α := A11) (n := len) (p := fun i x => (∀ j v, (c11 x)[j]? = some v → w.cell? ((ad.add (i * 28)).add j) = some v) ∧ ok11 w x) (fun i hil => by
      obtain ⟨cs', hc, ht⟩ := hi i (by omega)
      obtain ⟨_, hlen, hat⟩ := World.cells?_some hc
      obtain ⟨x, hx, hb⟩ := act_open11 hlen ht
      refine ⟨x, fun j v hv => ?_, hb⟩
      have hj : j < 28 := by have := (List.getElem?_eq_some_iff.1 hv).1; rw [c11_len] at this; exact this
      rw [hat j hj, hx]
      exact hv)
    refine ⟨(List.range len).map V, by simp, by omega, ?_⟩
    by_cases h0 : len = 0
    · exact .inl h0
    · obtain ⟨b, off, spot⟩ := ad
      have c0 := (hV 0 (by omega)).1 0 _ rfl
      have hspot : spot = none := by simpa [Addr.add] using World.cell?_spot c0
      subst hspot
      have hb : b < w.heap.size := by
        have := cell_lt c0
        simpa [add_plain] using this
      refine .inr ⟨b, off, rfl, hb, fun i x hx => ?_⟩
      have hil : i < len := by have := (List.getElem?_eq_some_iff.1 hx).1; simpa using this
      have e : V i = x := by
        rw [List.getElem?_map, List.getElem?_range hil] at hx
        simpa using hx
      rw [← e]
      refine ⟨fun j v hv => ?_, (hV i hil).2⟩
      have := (hV i hil).1 j v hv
      simpa only [add_plain] using this
end
end Go.Proofs.YtkondkajpmafkaaGreat
namespace Go.Proofs.YtkondkajpmafkaaGreat.scenePlays
open Go.ChangeShapes Go.WideShapes Go.ChangeAt Go.RowKit Go.Deep
set_option linter.unusedVariables false
theorem own : ownKnob Tryz.prog.godebug = none := by kernel_rfl
section
variable {XB : World → Nat → (Nat → Prop) → Sc → Prop}
end
end Go.Proofs.YtkondkajpmafkaaGreat.scenePlays
namespace Go.Proofs.YtkondkajpmafkaaGreat.sceneTold
open Go.ChangeShapes Go.WideShapes Go.ChangeAt Go.RowKit Go.Deep
set_option linter.unusedVariables false
theorem own : ownKnob Tryz.prog.godebug = none := by kernel_rfl
theorem laidOut : laidOutB Tryz.prog = true := by kernel_rfl
section
variable {XB : World → Nat → (Nat → Prop) → Sc → Prop}
set_option maxRecDepth 100000 in
theorem lifted (hT : XC XB) (os : Os) (started : os.Started) (H : Type) (enc : TypeId × Value → H) :
    ReturnsInHanded {} Tryz.checked os 4 .any (Rows.sceneToldSpec.pre6 enc Tryz.prog Tryz.f4 Rows.sceneToldRow.domain false) (Rows.sceneToldSpec.post enc Tryz.prog Tryz.f4 false true false false) := by
  refine returnsInHanded_of_change (C := Tryz.checked) own started (by kernel_rfl) Tryz.func4
    (ChangeSpec.witness6 (enc := enc) (C := Tryz.checked) false ⟨#[], #[.slice none 0 0, .int .u8 0], []⟩ 8 (by kernel_rfl) (by kernel_rfl) (by kernel_rfl) (by kernel_rfl)) ?_
  intro W base args ds gs before hval0 hW hcnd _
  have hval : ∀ (j : Nat) t v, Tryz.f4.params[j]? = some t → args[j]? = some v → Value.okWide Tryz.prog W .any base t v := hval0
  have hW' := hW
  obtain ⟨p, q, hA0, hV, rfl, hfz, hnd⟩ := hW
  have hA : DataW.TrodAll enc Tryz.prog W 0 (fun _ => true) true Tryz.f4.params.toList args.toList ds p := hA0
  rw [Tryz.params4] at hA hval
  obtain ⟨v0, vs0, d0, ds0, p0, q0, hargs, rfl, rfl, h0, r0⟩ := trodAll_cons hA
  obtain ⟨v1, vs1, d1, ds1, p1, q1, rfl, rfl, rfl, h1, r1⟩ := trodAll_cons r0
  obtain ⟨rfl, rfl, rfl⟩ := trodAll_nil r1
  obtain rfl : args = #[v0, v1] := by cases args; simp_all
  obtain ⟨rfl, rfl⟩ := trodVars_none hV
  obtain ⟨a0, len0, cap0, rfl⟩ := okWide_slice Tryz.underlying22 (hval 0 22 v0 rfl rfl)
  obtain ⟨x1, rfl, rfl, rfl, w1⟩ := open_int Tryz.underlying5 (hval 1 5 v1 rfl rfl) h1
  have hx1 := bounds_u8 w1
  have k0 := h0
  have lt0 : ∀ x ∈ p0, x.block < W.heap.size := by obtain ⟨m, hm⟩ := k0; exact DataW.trod_lt m _ _ _ hm
  obtain ⟨As, row⟩ : ∃ As, ARow11 W a0 len0 As := by
    obtain ⟨fuel, hf⟩ := h0
    exact open_acts11 (by simpa [Value.cells] using hf)
  clear hA0 hval0
  refine (told11_yes hT a0 len0 cap0 As x1 W row hx1.1 hx1.2).mono fun e W' ⟨he, bel⟩ => ?_
  subst he
  exact ⟨_, rfl, _, _, _, [], _, [], hW', trodAll_mk1 (shut_bool Tryz.underlying4 _), (trodAll_cons_mk (Below.trod laidOut (by kernel_rfl) (of_decide_eq_true (by kernel_rfl)) k0 bel lt0) (trodAll_cons_mk (shut_int Tryz.underlying5 w1) trodAll_mk0)), rfl, bel.frame _, fun h => by cases h⟩

theorem over (hT : XC XB) : Rows.sceneToldRow.holds Tryz.pinned (OpenSpec.ofChange Rows.sceneToldSpec) :=
  OpenClaim.holds_of_wide 4 Tryz.f4 rfl rfl rfl rfl rfl rfl rfl ⟨rfl, rfl, rfl, rfl, rfl⟩ rfl rfl rfl rfl rfl (by kernel_rfl) Tryz.func4 (by kernel_rfl)
    (of_decide_eq_true (by kernel_rfl)) (by unfold Func.isWrapper; first | (rw [if_pos (by decide +kernel)]; kernel_rfl) | (rw [if_neg (by decide +kernel)]; exact ⟨rfl, rfl⟩))
    (fun os started H enc _ => lifted hT os started H enc)
end
end Go.Proofs.YtkondkajpmafkaaGreat.sceneTold
