/-
  Parts as tuples; what the reference's With of layer 6 answers.
-/
import Derived.Test.YtkondkajpmafkaaGreatMT05
namespace Go.Proofs.YtkondkajpmafkaaGreat
open Go.RowKit

abbrev PT := Int × (Nat → Int) × Int × (Nat → Int) × Int × Int × Bool × Int
def pl (P : PT) : List Value := PL P.1 P.2.1 P.2.2.1 P.2.2.2.1 P.2.2.2.2.1 P.2.2.2.2.2.1 P.2.2.2.2.2.2.1 P.2.2.2.2.2.2.2
def zT : PT := (0, zI, 0, zI, 0, 0, false, 0)
def rightT (P : PT) : Bool := rightP P.1 P.2.1 P.2.2.1 P.2.2.2.1 P.2.2.2.2.1 P.2.2.2.2.2.1 P.2.2.2.2.2.2.1 P.2.2.2.2.2.2.2
def layT (k : Int) (P Q : PT) : PT :=
  if k = 0 then (P.1, Q.2.1, P.2.2) else if k = 1 then (P.1, P.2.1, Q.2.2.1, Q.2.2.2.1, P.2.2.2.2) else if k = 2 then (P.1, P.2.1, P.2.2.1, P.2.2.2.1, Q.2.2.2.2.1, Q.2.2.2.2.2.1, Q.2.2.2.2.2.2.1, P.2.2.2.2.2.2.2) else if k = 3 then (P.1, P.2.1, P.2.2.1, P.2.2.2.1, P.2.2.2.2.1, P.2.2.2.2.2.1, P.2.2.2.2.2.2.1, Q.2.2.2.2.2.2.2) else P
theorem layT_pl (k : Int) (P Q : PT) : layP k (pl P) (pl Q) = pl (layT k P Q) := by
  by_cases h0 : k = 0
  · subst h0; rfl
  · by_cases h1 : k = 1
    · subst h1; rfl
    · by_cases h2 : k = 2
      · subst h2; rfl
      · by_cases h3 : k = 3
        · subst h3; rfl
        · unfold layP layT
          rw [if_neg h0, if_neg h1, if_neg h2, if_neg h3, if_neg h0, if_neg h1, if_neg h2, if_neg h3]
theorem layT_has (k : Int) (P Q : PT) : (layT k P Q).1 = P.1 := by
  unfold layT
  by_cases h0 : k = 0
  · rw [if_pos h0]
  · rw [if_neg h0]
    by_cases h1 : k = 1
    · rw [if_pos h1]
    · rw [if_neg h1]
      by_cases h2 : k = 2
      · rw [if_pos h2]
      · rw [if_neg h2]
        by_cases h3 : k = 3
        · rw [if_pos h3]
        · rw [if_neg h3]
theorem pl_len (P : PT) : (pl P).length = 24 := rfl
theorem pl_size (P : PT) : (Tryz.prog.info? 43).map (·.size) = some (pl P).length := size_parts _ _ _ _ _ _ _ _
theorem pl_size' (P : PT) : (Tryz.prog.info? 43).map (·.size) = some (pl P).toArray.size := size_parts _ _ _ _ _ _ _ _
theorem pl_one (P : PT) : (pl P).toArray.all (·.oneCell') = true := PL_one _ _ _ _ _ _ _ _
theorem pl_set (P : PT) (s : Int) : (pl P).set 0 (.int .i64 s) = pl (s, P.2) := rfl
/-- parts with one kind more of others -/
def stepW (Q P : PT) (k : Int) : PT := (addK P.1 k, (layT k P Q).2)
def hasAll (s : Int) (ks : List Int) : Bool := ks.all (hasB s)
def withT (P Q : PT) (ks : List Int) : PT := ks.foldl (stepW Q) P
def withOk (P Q : PT) (ks : List Int) : Bool := rightT P && rightT Q && hasAll Q.1 ks
def withE (P Q : PT) (ks : List Int) : Int := if withOk P Q ks then 0 else 1
def withV (P Q : PT) (ks : List Int) : PT := if withOk P Q ks then withT P Q ks else zT
theorem with_no {P Q : PT} {ks : List Int} (h : withOk P Q ks = false) : withE P Q ks = 1 ∧ withV P Q ks = zT := by unfold withE withV; rw [h]; exact ⟨rfl, rfl⟩
theorem with_yes {P Q : PT} {ks : List Int} (h : withOk P Q ks = true) : withE P Q ks = 0 ∧ withV P Q ks = withT P Q ks := by unfold withE withV; rw [if_pos h, if_pos h]; exact ⟨rfl, rfl⟩
theorem with_succ {P Q : PT} {ks : List Int} {j : Nat} {k : Int} (h : ks[j]? = some k) : withT P Q (ks.take (j + 1)) = stepW Q (withT P Q (ks.take j)) k := by
  unfold withT
  rw [List.take_add_one, h, List.foldl_append]
  rfl
theorem has_kOk {s k : Int} (h : hasB s k = true) : kOk k = true := by
  unfold hasB at h
  unfold kOk
  rw [Bool.and_eq_true] at h
  exact h.1
theorem right_bound {P : PT} (h : rightT P = true) : 0 ≤ P.1 ∧ P.1 ≤ 31 := by
  unfold rightT rightP at h
  simp only [Bool.and_eq_true, decide_eq_true_eq] at h
  exact h.1.1

end Go.Proofs.YtkondkajpmafkaaGreat
