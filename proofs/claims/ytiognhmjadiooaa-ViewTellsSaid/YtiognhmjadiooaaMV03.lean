/-
  13 texts in one file, each with its own heading.
-/
import Derived.Test.YtiognhmjadiooaaMV02
import Derived.WalkKit
import Derived.ProofKit
import Derived.OpenShut
import Derived.Deep.Slices
import Derived.Laws.IdiomArrays
/-
  What package affine's along and column answer: a row's products with a vector, and one number more, added; a column.
-/
namespace Go.Proofs.Ytiognhmjadiooaa
open Go.RowKit

theorem rowIs_at {w : World} {b b' : Nat} {t : TypeId} {n : Nat} {f : Nat → Value} (h : w.rowIs b t n f) (e : b = b') : w.rowIs b' t n f := e ▸ h

def v3 (x y z : Int) (j : Nat) : Int := [x, y, z].getD j 0
theorem mul_parts {n x : Int} (h : mulE n x = 0) : okB n = true ∧ okB x = true ∧ okB (n * x / 65536) = true ∧ mulV n x = n * x / 65536 := by
  by_cases ho : (okB n && okB x) = true
  · have h4 : okB n = true ∧ okB x = true := by simpa using ho
    rw [(mul_yes ho).2] at h
    unfold fitE at h
    by_cases hk : okB (n * x / 65536) = true
    · refine ⟨h4.1, h4.2, hk, ?_⟩
      rw [(mul_yes ho).1]
      unfold fitV
      rw [if_pos hk]
    · rw [if_neg hk] at h; omega
  · rw [(mul_no (by simpa using ho)).2] at h; omega
theorem mul_of {n x : Int} (hn : okB n = true) (hx : okB x = true) (hk : okB (n * x / 65536) = true) : mulE n x = 0 ∧ mulV n x = n * x / 65536 := by
  have ho : (okB n && okB x) = true := by rw [hn, hx]; rfl
  rw [(mul_yes ho).1, (mul_yes ho).2]
  unfold fitE fitV
  rw [if_pos hk, if_pos hk]
  exact ⟨rfl, rfl⟩
theorem okB_mid {x v y : Int} (hx : okB x = true) (hy : okB y = true) (h1 : x ≤ v) (h2 : v ≤ y) : okB v = true := by
  obtain ⟨a, _⟩ := okB_iff.1 hx
  obtain ⟨_, b⟩ := okB_iff.1 hy
  exact okB_yes (by omega) (by omega)
theorem mul_mid {n x v y : Int} (h1 : x ≤ v) (h2 : v ≤ y) (e1 : mulE n x = 0) (e2 : mulE n y = 0) :
    mulE n v = 0 ∧ min (mulV n x) (mulV n y) ≤ mulV n v ∧ mulV n v ≤ max (mulV n x) (mulV n y) := by
  obtain ⟨on, ox, kx, vx⟩ := mul_parts e1
  obtain ⟨_, oy, ky, vy⟩ := mul_parts e2
  have ov := okB_mid ox oy h1 h2
  have hb : min (n * x / 65536) (n * y / 65536) ≤ n * v / 65536 ∧ n * v / 65536 ≤ max (n * x / 65536) (n * y / 65536) := by
    by_cases hn : 0 ≤ n
    · have a := Int.ediv_le_ediv (c := 65536) (by decide) (Int.mul_le_mul_of_nonneg_left h1 hn)
      have b := Int.ediv_le_ediv (c := 65536) (by decide) (Int.mul_le_mul_of_nonneg_left h2 hn)
      omega
    · have a := Int.ediv_le_ediv (c := 65536) (by decide) (Int.mul_le_mul_of_nonpos_left (show n ≤ 0 by omega) h1)
      have b := Int.ediv_le_ediv (c := 65536) (by decide) (Int.mul_le_mul_of_nonpos_left (show n ≤ 0 by omega) h2)
      omega
  have kv : okB (n * v / 65536) = true := by
    obtain ⟨a1, a2⟩ := okB_iff.1 kx
    obtain ⟨b1, b2⟩ := okB_iff.1 ky
    exact okB_yes (by omega) (by omega)
  obtain ⟨ev, vv⟩ := mul_of on ov kv
  rw [vx, vy, vv]
  exact ⟨ev, hb⟩
theorem add_parts {zs : List Int} (h : addE zs = 0) : rightB zs = true ∧ okB zs.sum = true ∧ addV zs = zs.sum := by
  by_cases ho : addOk zs = true
  · rw [addE_yes ho] at h
    unfold fitE at h
    by_cases hk : okB zs.sum = true
    · refine ⟨?_, hk, ?_⟩
      · have h4 : decide (zs.length ≤ 1024) = true ∧ rightB zs = true := by simpa [addOk] using ho
        exact h4.2
      · rw [addV_yes ho]; unfold fitV; rw [if_pos hk]
    · rw [if_neg hk] at h; omega
  · rw [addE_no (by simpa using ho)] at h; omega
theorem inAt_iff {B V : Nat → Int} {k : Nat} : inAt B V k = true ↔ B k ≤ V k ∧ V k ≤ B (3 + k) := by
  unfold inAt
  simp
theorem inBox_iff {B V : Nat → Int} : inBox B V = true ↔ ∀ k, k < 3 → B k ≤ V k ∧ V k ≤ B (3 + k) := by
  unfold inBox
  constructor
  · intro h k hk
    have h3 : (inAt B V 0 = true ∧ inAt B V 1 = true) ∧ inAt B V 2 = true := by simpa using h
    obtain rfl | rfl | rfl : k = 0 ∨ k = 1 ∨ k = 2 := by omega
    · exact inAt_iff.1 h3.1.1
    · exact inAt_iff.1 h3.1.2
    · exact inAt_iff.1 h3.2
  · intro h
    rw [inAt_iff.2 (h 0 (by omega)), inAt_iff.2 (h 1 (by omega)), inAt_iff.2 (h 2 (by omega))]
    rfl
theorem en_parts {N B : Nat → Int} {t : Int} (h : enE N B t = 0) : (∀ k, k < 3 → mulE (N k) (B k) = 0 ∧ mulE (N k) (B (3 + k)) = 0) ∧ addE (enLoL N B t) = 0 ∧ addE (enHiL N B t) = 0 ∧ enLo N B t = addV (enLoL N B t) ∧ enHi N B t = addV (enHiL N B t) := by
  have hv : enLo N B t = addV (enLoL N B t) ∧ enHi N B t = addV (enHiL N B t) := by unfold enLo enHi; rw [h]; exact ⟨rfl, rfl⟩
  unfold enE at h
  by_cases c : (enBad N B 0 || enBad N B 1 || enBad N B 2) = true
  · rw [if_pos c] at h; omega
  · rw [if_neg c] at h
    by_cases d : ((addE (enLoL N B t) != 0) || (addE (enHiL N B t) != 0)) = true
    · rw [if_pos d] at h; omega
    · have c3 : (enBad N B 0 = false ∧ enBad N B 1 = false) ∧ enBad N B 2 = false := by simpa using c
      have d2 : addE (enLoL N B t) = 0 ∧ addE (enHiL N B t) = 0 := by simpa using d
      refine ⟨fun k hk => ?_, d2.1, d2.2, hv.1, hv.2⟩
      have hb : enBad N B k = false := by
        obtain rfl | rfl | rfl : k = 0 ∨ k = 1 ∨ k = 2 := by omega
        · exact c3.1.1
        · exact c3.1.2
        · exact c3.2
      unfold enBad at hb
      simpa using hb
theorem en_mid {N B V : Nat → Int} {t : Int} (hin : inBox B V = true) (h : enE N B t = 0) :
    (∀ k, k < 3 → mulE (N k) (V k) = 0) ∧ okB (mulV (N 0) (V 0) + mulV (N 1) (V 1) + mulV (N 2) (V 2) + t) = true ∧ rightB [mulV (N 0) (V 0), mulV (N 1) (V 1), mulV (N 2) (V 2), t] = true ∧
    enLo N B t ≤ mulV (N 0) (V 0) + mulV (N 1) (V 1) + mulV (N 2) (V 2) + t ∧ mulV (N 0) (V 0) + mulV (N 1) (V 1) + mulV (N 2) (V 2) + t ≤ enHi N B t := by
  obtain ⟨hm, hl, hh, el, eh⟩ := en_parts h
  have hi := inBox_iff.1 hin
  obtain ⟨m0, a0, b0⟩ := mul_mid (hi 0 (by omega)).1 (hi 0 (by omega)).2 (hm 0 (by omega)).1 (hm 0 (by omega)).2
  obtain ⟨m1, a1, b1⟩ := mul_mid (hi 1 (by omega)).1 (hi 1 (by omega)).2 (hm 1 (by omega)).1 (hm 1 (by omega)).2
  obtain ⟨m2, a2, b2⟩ := mul_mid (hi 2 (by omega)).1 (hi 2 (by omega)).2 (hm 2 (by omega)).1 (hm 2 (by omega)).2
  obtain ⟨rl, kl, vl⟩ := add_parts hl
  obtain ⟨rh, kh, vh⟩ := add_parts hh
  rw [el, eh, vl, vh]
  have sl : (enLoL N B t).sum = t + min (mulV (N 0) (B 0)) (mulV (N 0) (B (3 + 0))) + min (mulV (N 1) (B 1)) (mulV (N 1) (B (3 + 1))) + min (mulV (N 2) (B 2)) (mulV (N 2) (B (3 + 2))) := by
    unfold enLoL enX enY; simp only [List.sum_cons, List.sum_nil]; omega
  have sh : (enHiL N B t).sum = t + max (mulV (N 0) (B 0)) (mulV (N 0) (B (3 + 0))) + max (mulV (N 1) (B 1)) (mulV (N 1) (B (3 + 1))) + max (mulV (N 2) (B 2)) (mulV (N 2) (B (3 + 2))) := by
    unfold enHiL enX enY; simp only [List.sum_cons, List.sum_nil]; omega
  rw [sl] at kl
  rw [sh] at kh
  rw [sl, sh]
  obtain ⟨kl1, kl2⟩ := okB_iff.1 kl
  obtain ⟨kh1, kh2⟩ := okB_iff.1 kh
  have ot : okB t = true := by
    unfold enLoL rightB at rl
    rw [List.all_cons, Bool.and_eq_true] at rl
    exact rl.1
  have p0 := (mul_parts m0).2.2.1
  have p1 := (mul_parts m1).2.2.1
  have p2 := (mul_parts m2).2.2.1
  rw [← (mul_parts m0).2.2.2] at p0
  rw [← (mul_parts m1).2.2.2] at p1
  rw [← (mul_parts m2).2.2.2] at p2
  refine ⟨fun k hk => ?_, okB_yes (by omega) (by omega), ?_, by omega, by omega⟩
  · obtain rfl | rfl | rfl : k = 0 ∨ k = 1 ∨ k = 2 := by omega
    · exact m0
    · exact m1
    · exact m2
  · unfold rightB
    simp [p0, p1, p2, ot]

theorem boxTo_parts {B : Nat → Int} (h : okBox B = true) : rightV [(B 0, B 1, B 2), (B 3, B 4, B 5)] = true ∧ B 0 ≤ B 3 ∧ B 1 ≤ B 4 ∧ B 2 ≤ B 5 := by
  unfold okBox boxTo boxTo boxTo boxTo at h
  have h4 : ((rightV [(B 0, B 1, B 2), (B 3, B 4, B 5)] = true ∧ B 0 ≤ B (3 + 0)) ∧ B 1 ≤ B (3 + 1)) ∧ B 2 ≤ B (3 + 2) := by simpa using h
  exact ⟨h4.1.1.1, h4.1.1.2, h4.1.2, h4.2⟩
theorem okBox_at {B : Nat → Int} (h : okBox B = true) {k : Nat} (hk : k < 6) : okB (B k) = true := by
  have hr := (boxTo_parts h).1
  rw [rightV2] at hr
  obtain ⟨ha, hb⟩ := ok6_parts hr
  obtain ⟨a0, a1, a2⟩ := ok3_parts ha
  obtain ⟨b0, b1, b2⟩ := ok3_parts hb
  rcases lt6 hk with rfl | rfl | rfl | rfl | rfl | rfl
  · exact a0
  · exact a1
  · exact a2
  · exact b0
  · exact b1
  · exact b2
theorem span_mid {P B V : Nat → Int} (hin : inBox B V = true) (h : spnE P B = 0) (hd : disE P V = 0) : spnLo P B ≤ disV P V ∧ disV P V ≤ spnHi P B := by
  have hs : spnOk P B = true := by
    by_cases c : spnOk P B = true
    · exact c
    · unfold spnE at h; rw [if_neg c] at h; omega
  have hdk : disOk P V = true := by
    by_cases c : disOk P V = true
    · exact c
    · unfold disE at hd; rw [if_neg c] at hd; omega
  unfold spnE at h
  rw [if_pos hs] at h
  unfold disE at hd
  rw [if_pos hdk] at hd
  unfold spnLo spnHi disV
  rw [if_pos hs, if_pos hs, if_pos hdk]
  by_cases h0 : dsE0 P V = 0
  · rw [if_pos h0] at hd ⊢
    obtain ⟨hm, hk, hr, hlo, hhi⟩ := en_mid hin h
    have hds : dsV0 P V = mulV (P 0) (V 0) + mulV (P 1) (V 1) + mulV (P 2) (V 2) := by
      have h6 : ok6 (P 0) (P 1) (P 2) (V 0) (V 1) (V 2) = true := by
        by_cases c : ok6 (P 0) (P 1) (P 2) (V 0) (V 1) (V 2) = true
        · exact c
        · unfold dsE0 at h0; rw [(dot_no (by simpa using c)).2] at h0; omega
      have hp : prodE (P 0) (P 1) (P 2) (V 0) (V 1) (V 2) = 0 := by
        unfold prodE first3
        rw [hm 0 (by omega), hm 1 (by omega), hm 2 (by omega)]; rfl
      unfold dsE0 at h0
      rw [(dot_yes h6 hp).2] at h0
      unfold dsV0
      rw [(dot_yes h6 hp).1, (add_parts h0).2.2]
      simp only [List.sum_cons, List.sum_nil]
      omega
    rw [(add_parts hd).2.2]
    simp only [List.sum_cons, List.sum_nil]
    rw [hds]
    omega
  · rw [if_neg h0] at hd; exact absurd hd h0

end Go.Proofs.Ytiognhmjadiooaa
namespace Go.Proofs.Ytiognhmjadiooaa
open Go.ChangeShapes Go.WideShapes Go.ChangeAt Go.RowKit Go.Deep

end Go.Proofs.Ytiognhmjadiooaa
namespace Go.Proofs.Ytiognhmjadiooaa
open Go.ChangeShapes Go.WideShapes Go.ChangeAt Go.RowKit Go.Deep

section
variable {H : Type} {enc : TypeId × Value → H} {w : World} {base : Nat} {spare : Nat → Bool} {held : Bool}

theorem take1_at {cs : List Value} {i : Nat} {v : Value} (h : (cs.drop i).take 1 = [v]) : cs[i]? = some v := by
  have e := congrArg (fun l => l[0]?) h
  simpa using e

theorem open_nums {t e : TypeId} {k : IntKind} {n fuel : Nat} {cs : List Value} {x : DataW H × List MemPlace} (ht : Try.prog.underlying t = some (.array n e)) (he : Try.prog.underlying e = some (.int k)) (hc : Try.prog.cellsOf e = 1)
    (h : DataW.trod enc Try.prog w base spare held fuel t cs = some x) : ∃ M : Nat → Int, ∀ i, i < n → cs[i]? = some (.int k (M i)) ∧ (Lit.int k (M i)).wf = true := by
  obtain ⟨xs, m, _, _, _, hxl, hx⟩ := DataW.trod_array ht h
  rw [hc] at hx
  refine choose_lt (α := Int) (n := n) (p := fun i v => cs[i]? = some (.int k v) ∧ (Lit.int k v).wf = true) (fun i hi => ?_)
  have e0 : xs[i]? = some (xs[i]'(by omega)) := List.getElem?_eq_getElem (by omega)
  obtain ⟨v, ev, _, wv⟩ := DataW.trod_int he ((hx i hi).trans e0)
  rw [Nat.mul_one] at ev
  exact ⟨v, take1_at ev, wv⟩

theorem list3 {cs : List Value} {M : Nat → Int} {k : IntKind} (hl : cs.length = 3) (h : ∀ i, i < 3 → cs[i]? = some (.int k (M i))) : cs = [.int k (M 0), .int k (M 1), .int k (M 2)] := by
  match cs, hl with
  | [c0, c1, c2], _ =>
    have h0 := h 0 (by omega)
    have h1 := h 1 (by omega)
    have h2 := h 2 (by omega)
    simp at h0 h1 h2
    rw [h0, h1, h2]

set_option maxRecDepth 100000 in
theorem open_vec3 {r : Reach} {b0 : Nat} {v : Value} {d : DataW H} {p : List MemPlace} (hv : Value.okWide Try.prog w r b0 25 v) (h : DataW.Trod enc Try.prog w base spare held 25 v d p) : ∃ V : Nat → Int, v = .agg #[.int .i64 (V 0), .int .i64 (V 1), .int .i64 (V 2)] := by
  obtain ⟨cs, rfl, hs⟩ := okWide_arr Try.underlying25 hv
  rw [show Try.prog.cellsOf 25 = 3 by kernel_rfl] at hs
  obtain ⟨fuel, hf⟩ := h
  obtain ⟨M, hM⟩ := open_nums Try.underlying25 Try.underlying23 (by kernel_rfl) hf
  obtain ⟨l⟩ := cs
  have hl : l.length = 3 := by simpa using hs
  have e := list3 (M := M) (k := .i64) hl (fun i hi => by simpa [Value.cells] using (hM i hi).1)
  exact ⟨M, by rw [e]⟩

end
end Go.Proofs.Ytiognhmjadiooaa
namespace Go.Proofs.Ytiognhmjadiooaa
open Go.ChangeShapes Go.WideShapes Go.ChangeAt Go.RowKit Go.Deep

def Nums (cs : List Value) (n : Nat) (M : Nat → Int) : Prop := ∀ i, i < n → cs[i]? = some (.int .i64 (M i))
theorem nums_piece {cs : List Value} {o n : Nat} {M : Nat → Int} (h : Nums ((cs.drop o).take n) n M) {i : Nat} (hi : i < n) : cs[o + i]? = some (.int .i64 (M i)) := by
  have := h i hi
  rw [List.getElem?_take, if_pos hi, List.getElem?_drop] at this
  exact this
theorem nums_join {cs : List Value} {n m : Nat} {M N : Nat → Int} (h : Nums ((cs.drop 0).take n) n M) (k : Nums ((cs.drop n).take m) m N) : Nums cs (n + m) (fun i => if i < n then M i else N (i - n)) := fun i hi => by
  show cs[i]? = some (.int .i64 (if i < n then M i else N (i - n)))
  by_cases c : i < n
  · rw [if_pos c]
    have := nums_piece h c
    rwa [Nat.zero_add] at this
  · rw [if_neg c]
    have := nums_piece k (i := i - n) (by omega)
    rwa [show n + (i - n) = i by omega] at this
section
variable {H : Type} {enc : TypeId × Value → H} {w : World} {base : Nat} {spare : Nat → Bool} {held : Bool}

theorem vec_nums {fuel : Nat} {cs : List Value} {x : DataW H × List MemPlace} (h : DataW.trod enc Try.prog w base spare held fuel 25 cs = some x) : ∃ M, Nums cs 3 M := by
  obtain ⟨M, hM⟩ := open_nums Try.underlying25 Try.underlying23 (by kernel_rfl) h
  exact ⟨M, fun i hi => (hM i hi).1⟩
theorem box_nums {fuel : Nat} {cs : List Value} {x : DataW H × List MemPlace} (h : DataW.trod enc Try.prog w base spare held fuel 33 cs = some x) : ∃ M, Nums cs 6 M := by
  obtain ⟨xs, n, _, _, _, hxl, hx⟩ := DataW.trod_struct Try.underlying33 h
  have hxl2 : xs.length = 2 := hxl
  have hC : Try.prog.cellsOf 25 = 3 := by kernel_rfl
  have h0 : DataW.trod enc Try.prog w base spare held n 25 ((cs.drop 0).take 3) = some (xs[0]'(by omega)) := by
    rw [← hC]; exact (hx 0 _ rfl).trans (List.getElem?_eq_getElem (by omega))
  have h1 : DataW.trod enc Try.prog w base spare held n 25 ((cs.drop 3).take 3) = some (xs[1]'(by omega)) := by
    have := (hx 1 _ rfl).trans (List.getElem?_eq_getElem (show 1 < xs.length by omega))
    exact (congrArg (fun c => DataW.trod enc Try.prog w base spare held n 25 ((cs.drop 3).take c)) hC.symm).trans this
  obtain ⟨M, hM⟩ := vec_nums h0
  obtain ⟨N, hN⟩ := vec_nums h1
  exact ⟨_, nums_join hM hN⟩
theorem plane_nums {fuel : Nat} {cs : List Value} {x : DataW H × List MemPlace} (h : DataW.trod enc Try.prog w base spare held fuel 27 cs = some x) : ∃ M, Nums cs 4 M := by
  obtain ⟨xs, n, _, _, _, hxl, hx⟩ := DataW.trod_struct Try.underlying27 h
  have hxl2 : xs.length = 2 := hxl
  have hC : Try.prog.cellsOf 25 = 3 := by kernel_rfl
  have hD : Try.prog.cellsOf 23 = 1 := by kernel_rfl
  have h0 : DataW.trod enc Try.prog w base spare held n 25 ((cs.drop 0).take 3) = some (xs[0]'(by omega)) := by
    rw [← hC]; exact (hx 0 _ rfl).trans (List.getElem?_eq_getElem (by omega))
  have h1 : DataW.trod enc Try.prog w base spare held n 23 ((cs.drop 3).take 1) = some (xs[1]'(by omega)) := by
    have := (hx 1 _ rfl).trans (List.getElem?_eq_getElem (show 1 < xs.length by omega))
    exact (congrArg (fun c => DataW.trod enc Try.prog w base spare held n 23 ((cs.drop 3).take c)) hD.symm).trans this
  obtain ⟨M, hM⟩ := vec_nums h0
  obtain ⟨v, ev, _, _⟩ := DataW.trod_int Try.underlying23 h1
  refine ⟨_, nums_join (m := 1) (N := fun _ => v) hM (fun i hi => ?_)⟩
  obtain rfl : i = 0 := by omega
  rw [ev]
  rfl
end
end Go.Proofs.Ytiognhmjadiooaa
namespace Go.Proofs.Ytiognhmjadiooaa
open Go.RowKit

end Go.Proofs.Ytiognhmjadiooaa
