/-
  3 texts in one file, each with its own heading.
-/
import Derived.Test.YtkondkajpmafkaaGreatMT20
/-
  The reference's tables inside a bigger block: what its Cut and IDs of layer 7 answer.
-/
namespace Go.Proofs.YtkondkajpmafkaaGreat
open Go.RowKit

def mk8 (m : Int × Int) : Int × PT := (m.1, m.2, zI, 0, zI, 0, 0, false, 0)
def cM (x : Int × PT) : List Value := [.int .i64 x.1, .int .i64 x.2.1]
abbrev ColM (w : World) (v : Value) (l : List (Int × Int)) : Prop := ColX w 135 2 cM v (l.map mk8)
def stE (tv : Nat → Value) (now : Int) (cv gv : Value) (j : Nat) : Value := if j < 577 then (if j % 2 = 1 then .int .i64 (((j - 513) / 2 : Nat) : Int) else tv ((j - 514) / 2)) else if j = 577 then .int .i64 now else if j = 578 then cv else gv
def sF (S : St) (tv : Nat → Value) (cv gv : Value) : Nat → Value := poolX (stE tv S.now cv gv) S.room S.G S.L
section
variable {S : St} {tv : Nat → Value} {cv gv : Value} {i : Nat}
end
structure RS (w : World) (g : Nat) (S : St) (tv : Nat → Value) (cv gv : Value) : Prop where
  row : w.rowIs g 96 580 (sF S tv cv gv)
  tab : ∀ i, i < 32 → ColR w (tv i) (S.T i)
  chs : ColM w cv S.ch
  gos : ColM w gv S.go
  offT : ∀ i, i < 32 → (tv i).ownBlock ≠ some g
  offC : cv.ownBlock ≠ some g
  offG : gv.ownBlock ≠ some g
  sepT : ∀ i, i < 32 → ∀ b, gv.ownBlock = some b → (tv i).ownBlock ≠ some b
  sepC : ∀ b, gv.ownBlock = some b → cv.ownBlock ≠ some b
def foot8 (g : Nat) (tv : Nat → Value) (cv gv : Value) (b : Nat) : Prop := b = g ∨ (∃ i, i < 32 ∧ (tv i).ownBlock = some b) ∨ cv.ownBlock = some b ∨ gv.ownBlock = some b
def RB (w : World) (g : Nat) (F : Nat → Prop) (S : St) : Prop := ∃ tv cv gv, RS w g S tv cv gv ∧ ∀ b, F b ↔ foot8 g tv cv gv b
section
variable {w w' : World} {g : Nat} {S S' : St} {tv tv' : Nat → Value} {cv cv' gv : Value}
end

theorem wpList_bldz {ops : Array Oper} {rest : List Oper} {op : Oper} {a : Go.Act} {w : World} {Q : Exit → Go.Act → World → Prop} (hgd : op.guard = none) (t : TypeId) (ho : op.op = .build t #[]) (vr : Value)
    (hrun : ∀ W, (Instr.build t #[]).run Tryz.prog W = .ok vr W)
    (h : wpList Tryz.prog ops Q rest (a.put op.dst vr) w) : wpList Tryz.prog ops Q (op :: rest) a w :=
  wpList_plain hgd fun K hK => by
    have h2 := hK _ _ h
    unfold Oper.wp execOp
    simp only [ho]
    simp [hrun]
    exact h2
end Go.Proofs.YtkondkajpmafkaaGreat
