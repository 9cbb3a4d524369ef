/-
  What package vec's Least and Greatest answer.
-/
import Derived.Test.YtjdoneacbnalaaaVecF
namespace Go.Proofs.Ytjdoneacbnalaaa
open Go.RowKit

/-- the better one of two -/
def bet (bt : Int → Int → Bool) (b x : Int) : Int := if bt x b then x else b
def betV (bt : Int → Int → Bool) (b x : V3) : V3 := (bet bt b.1 x.1, bet bt b.2.1 x.2.1, bet bt b.2.2 x.2.2)
def pk (bt : Int → Int → Bool) : List V3 → V3
  | [] => zeroV
  | v :: r => r.foldl (betV bt) v
def lessB (x y : Int) : Bool := decide (x < y)
def moreB (x y : Int) : Bool := decide (x > y)

theorem bet_yes {bt : Int → Int → Bool} {b x : Int} (h : bt x b = true) : bet bt b x = x := by unfold bet; rw [if_pos h]
theorem bet_no {bt : Int → Int → Bool} {b x : Int} (h : bt x b = false) : bet bt b x = b := by unfold bet; rw [h]; rfl

theorem pk_one {bt : Int → Int → Bool} {vs : List V3} {v : V3} (h : vs[0]? = some v) : pk bt (vs.take 1) = v := by
  cases vs with
  | nil => simp at h
  | cons a r => simp at h; subst h; simp [pk]
theorem pk_succ {bt : Int → Int → Bool} {vs : List V3} {v : V3} {k : Nat} (h : vs[k + 1]? = some v) : pk bt (vs.take (k + 2)) = betV bt (pk bt (vs.take (k + 1))) v := by
  cases vs with
  | nil => simp at h
  | cons a r =>
    have h' : r[k]? = some v := by simpa using h
    simp only [List.take_succ_cons, pk]
    rw [List.take_add_one, h']
    simp
theorem pk_all {bt : Int → Int → Bool} {vs : List V3} {k : Nat} (h : vs.length ≤ k) : pk bt (vs.take k) = pk bt vs := by rw [List.take_of_length_le h]

/-- what a comparing closure answers -/
def Compares (F : Nat) (bt : Int → Int → Bool) : Prop := ∀ x y w, Calls Try.prog F #[.int .i64 x, .int .i64 y] w fun e w' => e = .returned (.bool (bt x y)) ∧ w = w'

def AGG (v : V3) : Value := .agg #[.int .i64 v.1, .int .i64 v.2.1, .int .i64 v.2.2]
def BV (w : World) (g : Nat) (v : V3) : Prop := Blk w g 27 #[.int .i64 v.1, .int .i64 v.2.1, .int .i64 v.2.2]

theorem idx0 (x y z : Int) (w : World) : (Instr.index 27 (.agg #[.int .i64 x, .int .i64 y, .int .i64 z]) (.int .i64 0)).run Try.prog w = .ok (.int .i64 x) w := by kernel_rfl
theorem idx1 (x y z : Int) (w : World) : (Instr.index 27 (.agg #[.int .i64 x, .int .i64 y, .int .i64 z]) (.int .i64 1)).run Try.prog w = .ok (.int .i64 y) w := by kernel_rfl
theorem idx2 (x y z : Int) (w : World) : (Instr.index 27 (.agg #[.int .i64 x, .int .i64 y, .int .i64 z]) (.int .i64 2)).run Try.prog w = .ok (.int .i64 z) w := by kernel_rfl

/-- best, behind p places of a round -/
def mid (bt : Int → Int → Bool) (b x : V3) (p : Nat) : V3 := (if 0 < p then bet bt b.1 x.1 else b.1, if 1 < p then bet bt b.2.1 x.2.1 else b.2.1, if 2 < p then bet bt b.2.2 x.2.2 else b.2.2)

theorem mid_yes0 {bt : Int → Int → Bool} {b0 b1 b2 x y z : Int} {w : World} {g : Nat} (h : bt x b0 = true) (hB : BV w g (mid bt (b0, b1, b2) (x, y, z) 0)) : BV (w.setCell ⟨g, 0, none⟩ (.int .i64 x)) g (mid bt (b0, b1, b2) (x, y, z) 1) := by
  have h1 := Blk.set_ hB 0 (.int .i64 x)
  have e := bet_yes h
  unfold BV
  simp only [mid, e] at h1 ⊢
  exact h1
theorem mid_no0 {bt : Int → Int → Bool} {b0 b1 b2 x y z : Int} {w : World} {g : Nat} (h : bt x b0 = false) (hB : BV w g (mid bt (b0, b1, b2) (x, y, z) 0)) : BV w g (mid bt (b0, b1, b2) (x, y, z) 1) := by
  have e := bet_no h
  unfold BV at hB ⊢
  simp only [mid, e] at hB ⊢
  exact hB
theorem mid_yes1 {bt : Int → Int → Bool} {b0 b1 b2 x y z : Int} {w : World} {g : Nat} (h : bt y b1 = true) (hB : BV w g (mid bt (b0, b1, b2) (x, y, z) 1)) : BV (w.setCell ⟨g, 1, none⟩ (.int .i64 y)) g (mid bt (b0, b1, b2) (x, y, z) 2) := by
  have h1 := Blk.set_ hB 1 (.int .i64 y)
  have e := bet_yes h
  unfold BV
  simp only [mid, e] at h1 ⊢
  exact h1
theorem mid_no1 {bt : Int → Int → Bool} {b0 b1 b2 x y z : Int} {w : World} {g : Nat} (h : bt y b1 = false) (hB : BV w g (mid bt (b0, b1, b2) (x, y, z) 1)) : BV w g (mid bt (b0, b1, b2) (x, y, z) 2) := by
  have e := bet_no h
  unfold BV at hB ⊢
  simp only [mid, e] at hB ⊢
  exact hB
theorem mid_yes2 {bt : Int → Int → Bool} {b0 b1 b2 x y z : Int} {w : World} {g : Nat} (h : bt z b2 = true) (hB : BV w g (mid bt (b0, b1, b2) (x, y, z) 2)) : BV (w.setCell ⟨g, 2, none⟩ (.int .i64 z)) g (mid bt (b0, b1, b2) (x, y, z) 3) := by
  have h1 := Blk.set_ hB 2 (.int .i64 z)
  have e := bet_yes h
  unfold BV
  simp only [mid, e] at h1 ⊢
  exact h1
theorem mid_no2 {bt : Int → Int → Bool} {b0 b1 b2 x y z : Int} {w : World} {g : Nat} (h : bt z b2 = false) (hB : BV w g (mid bt (b0, b1, b2) (x, y, z) 2)) : BV w g (mid bt (b0, b1, b2) (x, y, z) 3) := by
  have e := bet_no h
  unfold BV at hB ⊢
  simp only [mid, e] at hB ⊢
  exact hB

end Go.Proofs.Ytjdoneacbnalaaa
