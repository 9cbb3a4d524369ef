/-
  12 texts in one file, each with its own heading.
-/
import Derived.Test.YtdndafdninnjfaaGreatMVec
import Derived.Test.YtdndafdninnjfaaGreatMAff
/-
  Boxes and planes as functions of the place (a box: Min at 0 to 2, Max at 3 to 5; a plane: N at 0 to 2, D at 3); whether they may be, and whether a vector is in a box, by the reference of layer 4.
-/
namespace Go.Proofs.YtdndafdninnjfaaGreat
open Go.RowKit

/-- may a box be, by its first k places -/
def boxTo (B : Nat → Int) : Nat → Bool
  | 0 => rightV [(B 0, B 1, B 2), (B 3, B 4, B 5)]
  | k + 1 => boxTo B k && decide (B k ≤ B (3 + k))
def okBox (B : Nat → Int) : Bool := boxTo B 3
end Go.Proofs.YtdndafdninnjfaaGreat
/-
  What the reference's ends of layer 4 answers: the least and the greatest sum of a row's numbers with a box's.
-/
namespace Go.Proofs.YtdndafdninnjfaaGreat
open Go.RowKit

/-- two lists that the call appends to lie in blocks of their own -/
def Apart (v u : Value) : Prop := ∀ k, v.ownBlock = some k → u.ownBlock ≠ some k
theorem Apart.symm {v u : Value} (h : Apart v u) : Apart u v := fun k h1 h2 => h k h2 h1
end Go.Proofs.YtdndafdninnjfaaGreat
/-
  What the reference's Distance and Span of layer 4 answer.
-/
namespace Go.Proofs.YtdndafdninnjfaaGreat
open Go.RowKit

end Go.Proofs.YtdndafdninnjfaaGreat
/-
  What the reference's Carry of layer 4 answers.
-/
namespace Go.Proofs.YtdndafdninnjfaaGreat
open Go.RowKit

def r3 (x y z : Int) (j : Nat) : Int := [x, y, z].getD j 0
end Go.Proofs.YtdndafdninnjfaaGreat
/-
  Slices of boxes as lists; what the reference's Join of layer 4 answers.
-/
namespace Go.Proofs.YtdndafdninnjfaaGreat
open Go.ChangeShapes Go.WideShapes Go.ChangeAt Go.RowKit Go.Deep

/-! vectors that the call itself appends -/
def flatV (vs : List V3) : List Value := vs.flatMap fun v => [.int .i64 v.1, .int .i64 v.2.1, .int .i64 v.2.2]
theorem flatV_len (vs : List V3) : (flatV vs).length = vs.length * 3 := by
  induction vs with
  | nil => rfl
  | cons v r ih => unfold flatV at ih ⊢; simp [ih]; omega
theorem flatV_at : ∀ (vs : List V3) (i : Nat), i < vs.length → (flatV vs)[i * 3]? = some (.int .i64 (vs.getD i zeroV).1) ∧ (flatV vs)[i * 3 + 1]? = some (.int .i64 (vs.getD i zeroV).2.1) ∧ (flatV vs)[i * 3 + 2]? = some (.int .i64 (vs.getD i zeroV).2.2)
  | [], i, h => by simp at h
  | v :: r, 0, _ => by simp [flatV]
  | v :: r, i + 1, h => by
    have ih := flatV_at r i (by simpa using h)
    have e : flatV (v :: r) = [.int .i64 v.1, .int .i64 v.2.1, .int .i64 v.2.2] ++ flatV r := by simp [flatV]
    rw [e]
    have g : ∀ j, ([Value.int .i64 v.1, .int .i64 v.2.1, .int .i64 v.2.2] ++ flatV r)[(i + 1) * 3 + j]? = (flatV r)[i * 3 + j]? := fun j => by
      rw [List.getElem?_append_right (by simp; omega)]
      congr 1
      simp
      omega
    have g0 := g 0
    simp only [Nat.add_zero] at g0
    rw [g0, g 1, g 2]
    simpa using ih

def OwnV (w : World) (base : Nat) (v : Value) (n : Nat) (vs : List V3) : Prop := w.ownsRow base 56 3 v n (flatV vs)
theorem OwnV.row {w : World} {base : Nat} {v : Value} {n : Nat} {vs : List V3} (h : OwnV w base v n vs) : ∃ a cap, v = .slice a n cap ∧ VRow w a n vs := by
  have hl : vs.length = n := by have := h.1; rw [flatV_len] at this; omega
  rcases h.2 with ⟨rfl, rfl⟩ | ⟨g, cap, cur, rfl, hb, hh, hnc, hm, hs, ht⟩
  · exact ⟨none, 0, rfl, hl, by omega, Or.inl rfl⟩
  · unfold maxLen at hm
    refine ⟨_, cap, rfl, hl, by omega, Or.inr ⟨g, 0, rfl, fun i hi => ?_⟩⟩
    obtain ⟨f0, f1, f2⟩ := flatV_at vs i (by omega)
    rw [Nat.zero_add]
    exact ⟨(World.ownsRow.cellAt h _ (by omega)).trans f0, (World.ownsRow.cellAt h _ (by omega)).trans f1, (World.ownsRow.cellAt h _ (by omega)).trans f2⟩
def zeroB : Nat → Int := fun _ => 0
/-- a slice of boxes whose elements are 'Bs' -/
def BRow (w : World) (a : Option Addr) (len : Nat) (Bs : List (Nat → Int)) : Prop :=
  Bs.length = len ∧ len ≤ 9223372036854775807 ∧ (len = 0 ∨ ∃ b off, a = some ⟨b, off, none⟩ ∧ ∀ i, i < len → ∀ j, j < 6 → w.cell? ⟨b, off + i * 6 + j, none⟩ = some (.int .i64 (Bs.getD i zeroB j)))
theorem BRow.at_ {w : World} {a : Option Addr} {len k : Nat} {Bs : List (Nat → Int)} (h : BRow w a len Bs) (hk : k < len) :
    ∃ b off B, a = some ⟨b, off, none⟩ ∧ Bs[k]? = some B ∧ w.cell? ⟨b, off + k * 6, none⟩ = some (.int .i64 (B 0)) ∧ w.cell? ⟨b, off + k * 6 + 1, none⟩ = some (.int .i64 (B 1)) ∧ w.cell? ⟨b, off + k * 6 + 2, none⟩ = some (.int .i64 (B 2)) ∧ w.cell? ⟨b, off + k * 6 + 3, none⟩ = some (.int .i64 (B 3)) ∧ w.cell? ⟨b, off + k * 6 + 4, none⟩ = some (.int .i64 (B 4)) ∧ w.cell? ⟨b, off + k * 6 + 5, none⟩ = some (.int .i64 (B 5)) := by
  obtain ⟨h1, h2, h3⟩ := h
  rcases h3 with h3 | ⟨b, off, rfl, hc⟩
  · omega
  · have hk' : k < Bs.length := by omega
    have e : Bs.getD k zeroB = Bs[k] := by simp [List.getD, List.getElem?_eq_getElem hk']
    have c := hc k hk
    rw [e] at c
    exact ⟨b, off, _, rfl, List.getElem?_eq_getElem hk', c 0 (by omega), c 1 (by omega), c 2 (by omega), c 3 (by omega), c 4 (by omega), c 5 (by omega)⟩
end Go.Proofs.YtdndafdninnjfaaGreat
/-
  Inside, as plain arithmetic: what lies between two numbers, its product lies between theirs; so with sums, with boxes carried, spans and joins.
-/
namespace Go.Proofs.YtdndafdninnjfaaGreat
open Go.RowKit

end Go.Proofs.YtdndafdninnjfaaGreat
/-
  Arguments that are boxes and planes, opened to their numbers.
-/
namespace Go.Proofs.YtdndafdninnjfaaGreat
open Go.ChangeShapes Go.WideShapes Go.ChangeAt Go.RowKit Go.Deep

section
variable {H : Type} {enc : TypeId × Value → H} {w : World} {base : Nat} {spare : Nat → Bool} {held : Bool}

end
end Go.Proofs.YtdndafdninnjfaaGreat
/-
  '==' of two boxes that are the same.
-/
namespace Go.Proofs.YtdndafdninnjfaaGreat
open Go.RowKit

end Go.Proofs.YtdndafdninnjfaaGreat
/-
  What package shape's products, total and split answer.
-/
namespace Go.Proofs.YtdndafdninnjfaaGreat
open Go.RowKit

end Go.Proofs.YtdndafdninnjfaaGreat
/-
  What package shape's ends answers.
-/
namespace Go.Proofs.YtdndafdninnjfaaGreat
open Go.RowKit

end Go.Proofs.YtdndafdninnjfaaGreat
/-
  What package shape's Right, Plane and In answer.
-/
namespace Go.Proofs.YtdndafdninnjfaaGreat
open Go.RowKit

end Go.Proofs.YtdndafdninnjfaaGreat
/-
  What package shape's Distance and Span answer.
-/
namespace Go.Proofs.YtdndafdninnjfaaGreat
open Go.RowKit

end Go.Proofs.YtdndafdninnjfaaGreat
