/-
  What package vec's Least and Greatest answer.
-/
import Derived.Test.YtiniflddgnbngaaVecF
namespace Go.Proofs.Ytiniflddgnbngaa
open Go.RowKit

/-- the better one of two -/
def bet (bt : Int → Int → Bool) (b x : Int) : Int := if bt x b then x else b
def betV (bt : Int → Int → Bool) (b x : V3) : V3 := (bet bt b.1 x.1, bet bt b.2.1 x.2.1, bet bt b.2.2 x.2.2)
def pk (bt : Int → Int → Bool) : List V3 → V3
  | [] => zeroV
  | v :: r => r.foldl (betV bt) v
def lessB (x y : Int) : Bool := decide (x < y)
def moreB (x y : Int) : Bool := decide (x > y)

theorem bet_yes {bt : Int → Int → Bool} {b x : Int} (h : bt x b = true) : bet bt b x = x := by unfold bet; rw [if_pos h]
theorem bet_no {bt : Int → Int → Bool} {b x : Int} (h : bt x b = false) : bet bt b x = b := by unfold bet; rw [h]; rfl

theorem pk_one {bt : Int → Int → Bool} {vs : List V3} {v : V3} (h : vs[0]? = some v) : pk bt (vs.take 1) = v := by
  cases vs with
  | nil => simp at h
  | cons a r => simp at h; subst h; simp [pk]
theorem pk_succ {bt : Int → Int → Bool} {vs : List V3} {v : V3} {k : Nat} (h : vs[k + 1]? = some v) : pk bt (vs.take (k + 2)) = betV bt (pk bt (vs.take (k + 1))) v := by
  cases vs with
  | nil => simp at h
  | cons a r =>
    have h' : r[k]? = some v := by simpa using h
    simp only [List.take_succ_cons, pk]
    rw [List.take_add_one, h']
    simp
theorem pk_all {bt : Int → Int → Bool} {vs : List V3} {k : Nat} (h : vs.length ≤ k) : pk bt (vs.take k) = pk bt vs := by rw [List.take_of_length_le h]

/-- what a comparing closure answers -/
def Compares (F : Nat) (bt : Int → Int → Bool) : Prop := ∀ x y w, Calls Try.prog F #[.int .i64 x, .int .i64 y] w fun e w' => e = .returned (.bool (bt x y)) ∧ w = w'

def AGG (v : V3) : Value := .agg #[.int .i64 v.1, .int .i64 v.2.1, .int .i64 v.2.2]
/-- best, behind p places of a round -/
def mid (bt : Int → Int → Bool) (b x : V3) (p : Nat) : V3 := (if 0 < p then bet bt b.1 x.1 else b.1, if 1 < p then bet bt b.2.1 x.2.1 else b.2.1, if 2 < p then bet bt b.2.2 x.2.2 else b.2.2)

end Go.Proofs.Ytiniflddgnbngaa
