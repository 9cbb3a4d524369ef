/-
  7 texts in one file, each with its own heading.
-/
import Derived.Test.YthhfcedhbfandaaGreatMS09
import Derived.Test.YthhfcedhbfandaaGreatMS12
import Derived.Deep.QuietTactic
import Derived.Maps.AppendAt
/-
  The reference's tables inside a bigger block: what its Find, fits, Add, Put, Cut and IDs of layer 7 answer.
-/
namespace Go.Proofs.YthhfcedhbfandaaGreat
open Go.RowKit

abbrev ColR (w : World) (v : Value) (R : TR) : Prop := ColX w 256 25 rcells v R
structure TV (w : World) (g o : Nat) (t : TypeId) (N : Nat) (f : Nat → Value) (s : Int) (v : Value) (R : TR) : Prop where
  row : w.rowIs g t N f
  inN : o + 1 < N
  set : f o = .int .i64 s
  val : f (o + 1) = v
  col : ColR w v R
  off : v.ownBlock ≠ some g
  len : R.length ≤ 1000
theorem al_len (S : St) : (alS S).length ≤ 256 := all_len _ _ _
def cP (x : Int × PT) : List Value := pl x.2
theorem wpList_bs8 {ops : Array Oper} {rest : List Oper} {op : Oper} {a : Go.Act} {w : World} {Q : Exit → Go.Act → World → Prop} (hgd : op.guard = none) (t e : TypeId) (x : Operand) (ho : op.op = .buildSlice t 1 #[(0, x)]) (X : List Value) (hx : a.eval x = .agg X.toArray)
    (hrun : ∀ W, (Instr.buildSlice t 1 #[(0, .agg X.toArray)]).run Tryz.prog W = .ok (.slice (some ⟨W.heap.size, 0, none⟩) 1 1) (W.alloc (.cells X.toArray e)))
    (h : wpList Tryz.prog ops Q rest (a.put op.dst (.slice (some ⟨w.heap.size, 0, none⟩) 1 1)) (w.alloc (.cells X.toArray e))) : wpList Tryz.prog ops Q (op :: rest) a w :=
  wpList_plain hgd fun K hK => by
    have h2 := hK _ _ h
    unfold Oper.wp execOp
    simp only [ho]
    simp [hx, hrun]
    exact h2
section
variable (SB : World → Nat → (Nat → Prop) → St → Prop)
structure R1 (w : World) (g m : Nat) (v8 v9 : Value) (since : Int) (wr : World) (F : Nat → Prop) (S : St) (X : TR) : Prop where
  ids : ∃ ia icap, v8 = .slice ia X.length icap ∧ Row wr ia X.length (X.map Prod.fst) ∧ Aw F ia X.length
  was : ColX wr 52 24 cP v9 X
  own : ∀ b, v9.ownBlock = some b → ¬ F b
  sb : SB wr g F S
  told : Told (fun _ => True) (fun x P => (x, P) ∈ X) since S
  bd : Bd S m
  bel : Below w.heap.size w wr
  foot : ∀ b, F b → w.heap.size ≤ b
  len : X.length ≤ 256
  s0 : 0 ≤ since
  s1 : since ≤ 1000
end
section
variable {SB : World → Nat → (Nat → Prop) → St → Prop}
end
def mk8 (m : Int × Int) : Int × PT := (m.1, m.2, zI, 0, zI, 0, 0, false, 0)
def cM (x : Int × PT) : List Value := [.int .i64 x.1, .int .i64 x.2.1]
abbrev ColM (w : World) (v : Value) (l : List (Int × Int)) : Prop := ColX w 160 2 cM v (l.map mk8)
def stE (tv : Nat → Value) (now : Int) (cv gv : Value) (j : Nat) : Value := if j < 577 then (if j % 2 = 1 then .int .i64 (((j - 513) / 2 : Nat) : Int) else tv ((j - 514) / 2)) else if j = 577 then .int .i64 now else if j = 578 then cv else gv
def sF (S : St) (tv : Nat → Value) (cv gv : Value) : Nat → Value := poolX (stE tv S.now cv gv) S.room S.G S.L
section
variable {S : St} {tv : Nat → Value} {cv gv : Value} {i : Nat}
end
structure RS (w : World) (g : Nat) (S : St) (tv : Nat → Value) (cv gv : Value) : Prop where
  row : w.rowIs g 73 580 (sF S tv cv gv)
  tab : ∀ i, i < 32 → ColR w (tv i) (S.T i)
  chs : ColM w cv S.ch
  gos : ColM w gv S.go
  offT : ∀ i, i < 32 → (tv i).ownBlock ≠ some g
  offC : cv.ownBlock ≠ some g
  offG : gv.ownBlock ≠ some g
  sepT : ∀ i, i < 32 → ∀ b, gv.ownBlock = some b → (tv i).ownBlock ≠ some b
  sepC : ∀ b, gv.ownBlock = some b → cv.ownBlock ≠ some b
def foot8 (g : Nat) (tv : Nat → Value) (cv gv : Value) (b : Nat) : Prop := b = g ∨ (∃ i, i < 32 ∧ (tv i).ownBlock = some b) ∨ cv.ownBlock = some b ∨ gv.ownBlock = some b
def RB (w : World) (g : Nat) (F : Nat → Prop) (S : St) : Prop := ∃ tv cv gv, RS w g S tv cv gv ∧ ∀ b, F b ↔ foot8 g tv cv gv b
section
variable {w w' : World} {g : Nat} {S S' : St} {tv tv' : Nat → Value} {cv cv' gv : Value}
end

theorem wpList_bldz {ops : Array Oper} {rest : List Oper} {op : Oper} {a : Go.Act} {w : World} {Q : Exit → Go.Act → World → Prop} (hgd : op.guard = none) (t : TypeId) (ho : op.op = .build t #[]) (vr : Value)
    (hrun : ∀ W, (Instr.build t #[]).run Tryz.prog W = .ok vr W)
    (h : wpList Tryz.prog ops Q rest (a.put op.dst vr) w) : wpList Tryz.prog ops Q (op :: rest) a w :=
  wpList_plain hgd fun K hK => by
    have h2 := hK _ _ h
    unfold Oper.wp execOp
    simp only [ho]
    simp [hrun]
    exact h2
end Go.Proofs.YthhfcedhbfandaaGreat
