/-
  Parts as tuples; what the reference's With of layer 6 answers.
-/
import Derived.Test.YtpobnmcjmclgbaaPrtE
namespace Go.Proofs.Ytpobnmcjmclgbaa
open Go.RowKit

abbrev PT := Int × (Nat → Int) × Int × (Nat → Int) × Int × Int × Bool × Int
def pl (P : PT) : List Value := PL P.1 P.2.1 P.2.2.1 P.2.2.2.1 P.2.2.2.2.1 P.2.2.2.2.2.1 P.2.2.2.2.2.2.1 P.2.2.2.2.2.2.2
def zT : PT := (0, zI, 0, zI, 0, 0, false, 0)
def rightT (P : PT) : Bool := rightP P.1 P.2.1 P.2.2.1 P.2.2.2.1 P.2.2.2.2.1 P.2.2.2.2.2.1 P.2.2.2.2.2.2.1 P.2.2.2.2.2.2.2
def layT (k : Int) (P Q : PT) : PT :=
  if k = 0 then (P.1, Q.2.1, P.2.2) else if k = 1 then (P.1, P.2.1, Q.2.2.1, Q.2.2.2.1, P.2.2.2.2) else if k = 2 then (P.1, P.2.1, P.2.2.1, P.2.2.2.1, Q.2.2.2.2.1, Q.2.2.2.2.2.1, Q.2.2.2.2.2.2.1, P.2.2.2.2.2.2.2) else if k = 3 then (P.1, P.2.1, P.2.2.1, P.2.2.2.1, P.2.2.2.2.1, P.2.2.2.2.2.1, P.2.2.2.2.2.2.1, Q.2.2.2.2.2.2.2) else P
theorem layT_pl (k : Int) (P Q : PT) : layP k (pl P) (pl Q) = pl (layT k P Q) := by
  by_cases h0 : k = 0
  · subst h0; rfl
  · by_cases h1 : k = 1
    · subst h1; rfl
    · by_cases h2 : k = 2
      · subst h2; rfl
      · by_cases h3 : k = 3
        · subst h3; rfl
        · unfold layP layT
          rw [if_neg h0, if_neg h1, if_neg h2, if_neg h3, if_neg h0, if_neg h1, if_neg h2, if_neg h3]
theorem layT_has (k : Int) (P Q : PT) : (layT k P Q).1 = P.1 := by
  unfold layT
  by_cases h0 : k = 0
  · rw [if_pos h0]
  · rw [if_neg h0]
    by_cases h1 : k = 1
    · rw [if_pos h1]
    · rw [if_neg h1]
      by_cases h2 : k = 2
      · rw [if_pos h2]
      · rw [if_neg h2]
        by_cases h3 : k = 3
        · rw [if_pos h3]
        · rw [if_neg h3]
theorem rlayT (k : Int) (P Q : PT) (w : World) : Calls Try.prog 19 #[.agg (pl P).toArray, .agg (pl Q).toArray, .int .i64 k] w fun e w' => e = .returned (.agg (pl (layT k P Q)).toArray) ∧ Below w.heap.size w w' := by
  rw [← layT_pl]
  exact rlay_any k _ _ _ _ _ _ _ _ _ _ _ _ _ _ _ _ w
theorem pl_len (P : PT) : (pl P).length = 24 := rfl
theorem pl_size (P : PT) : (Try.prog.info? 39).map (·.size) = some (pl P).length := size_parts _ _ _ _ _ _ _ _
theorem pl_size' (P : PT) : (Try.prog.info? 39).map (·.size) = some (pl P).toArray.size := size_parts _ _ _ _ _ _ _ _
theorem pl_one (P : PT) : (pl P).toArray.all (·.oneCell') = true := PL_one _ _ _ _ _ _ _ _
theorem pl_set (P : PT) (s : Int) : (pl P).set 0 (.int .i64 s) = pl (s, P.2) := rfl
theorem rrightT {P : PT} {b : Bool} (h : rightT P = b) (w : World) : Calls Try.prog 9 #[.agg (pl P).toArray] w fun e w' => e = .returned (.bool b) ∧ Below w.heap.size w w' := rpright_b h w

/-- parts with one kind more of others -/
def stepW (Q P : PT) (k : Int) : PT := (addK P.1 k, (layT k P Q).2)
def hasAll (s : Int) (ks : List Int) : Bool := ks.all (hasB s)
def withT (P Q : PT) (ks : List Int) : PT := ks.foldl (stepW Q) P
def withOk (P Q : PT) (ks : List Int) : Bool := rightT P && rightT Q && hasAll Q.1 ks
def withE (P Q : PT) (ks : List Int) : Int := if withOk P Q ks then 0 else 1
def withV (P Q : PT) (ks : List Int) : PT := if withOk P Q ks then withT P Q ks else zT
theorem with_no {P Q : PT} {ks : List Int} (h : withOk P Q ks = false) : withE P Q ks = 1 ∧ withV P Q ks = zT := by unfold withE withV; rw [h]; exact ⟨rfl, rfl⟩
theorem with_yes {P Q : PT} {ks : List Int} (h : withOk P Q ks = true) : withE P Q ks = 0 ∧ withV P Q ks = withT P Q ks := by unfold withE withV; rw [if_pos h, if_pos h]; exact ⟨rfl, rfl⟩
theorem with_succ {P Q : PT} {ks : List Int} {j : Nat} {k : Int} (h : ks[j]? = some k) : withT P Q (ks.take (j + 1)) = stepW Q (withT P Q (ks.take j)) k := by
  unfold withT
  rw [List.take_add_one, h, List.foldl_append]
  rfl
theorem hasAll_succ {s : Int} {ks : List Int} {j : Nat} {k : Int} (h : ks[j]? = some k) (hr : hasAll s (ks.take j) = true) (hk : hasB s k = true) : hasAll s (ks.take (j + 1)) = true := by
  unfold hasAll at hr ⊢
  rw [List.take_add_one, List.all_append, hr, h]
  simpa using hk
theorem hasAll_bad {s : Int} {ks : List Int} {j : Nat} {k : Int} (h : ks[j]? = some k) (hk : hasB s k = false) : hasAll s ks = false := by
  unfold hasAll
  rw [List.all_eq_false]
  exact ⟨k, List.mem_of_getElem? h, by simpa using hk⟩
theorem has_kOk {s k : Int} (h : hasB s k = true) : kOk k = true := by
  unfold hasB at h
  unfold kOk
  rw [Bool.and_eq_true] at h
  exact h.1
theorem shv {k s : Int} (hk : kOk k = true) (h0 : 0 ≤ s) (h1 : s ≤ 31) : IntKind.i64.wrap (s + IntKind.i64.wrap (2 ^ min (IntKind.u64.wrap k).toNat 64)) = s + 2 ^ k.toNat := by
  have e : ∀ x : Int, 0 ≤ x → x ≤ 100 → IntKind.i64.wrap x = x := fun x a b => IntWalk.i64_in _ (by omega)
  rcases kOk_cases hk with rfl | rfl | rfl | rfl | rfl
  · rw [show IntKind.i64.wrap (2 ^ min (IntKind.u64.wrap 0).toNat 64) = 1 by decide]
    exact e (s + 1) (by omega) (by omega)
  · rw [show IntKind.i64.wrap (2 ^ min (IntKind.u64.wrap 1).toNat 64) = 2 by decide]
    exact e (s + 2) (by omega) (by omega)
  · rw [show IntKind.i64.wrap (2 ^ min (IntKind.u64.wrap 2).toNat 64) = 4 by decide]
    exact e (s + 4) (by omega) (by omega)
  · rw [show IntKind.i64.wrap (2 ^ min (IntKind.u64.wrap 3).toNat 64) = 8 by decide]
    exact e (s + 8) (by omega) (by omega)
  · rw [show IntKind.i64.wrap (2 ^ min (IntKind.u64.wrap 4).toNat 64) = 16 by decide]
    exact e (s + 16) (by omega) (by omega)
theorem right_bound {P : PT} (h : rightT P = true) : 0 ≤ P.1 ∧ P.1 ≤ 31 := by
  unfold rightT rightP at h
  simp only [Bool.and_eq_true, decide_eq_true_eq] at h
  exact h.1.1

end Go.Proofs.Ytpobnmcjmclgbaa
