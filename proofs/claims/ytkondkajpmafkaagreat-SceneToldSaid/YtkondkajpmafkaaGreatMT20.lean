/-
  4 texts in one file, each with its own heading.
-/
import Derived.Test.YtkondkajpmafkaaGreatMT14
import Derived.Test.YtkondkajpmafkaaGreatMT19
import Derived.Test.YtkondkajpmafkaaGreatMT13
import Derived.Deep.QuietTactic
import Derived.Maps.AppendAt
/-
  The reference's tables inside a bigger block: what its Find, fits, Add, Put, Cut and IDs of layer 7 answer.
-/
namespace Go.Proofs.YtkondkajpmafkaaGreat
open Go.RowKit

abbrev ColR (w : World) (v : Value) (R : TR) : Prop := ColX w 140 25 rcells v R
structure TV (w : World) (g o : Nat) (t : TypeId) (N : Nat) (f : Nat → Value) (s : Int) (v : Value) (R : TR) : Prop where
  row : w.rowIs g t N f
  inN : o + 1 < N
  set : f o = .int .i64 s
  val : f (o + 1) = v
  col : ColR w v R
  off : v.ownBlock ≠ some g
  len : R.length ≤ 1000
theorem al_len (S : St) : (alS S).length ≤ 256 := all_len _ _ _
def cP (x : Int × PT) : List Value := pl x.2
theorem inf_parts : (Tryz.prog.info? 43).map (fun i => (i.zero, i.size, i.bytes)) = some (some (.agg Z24.toArray), 24, 192) := by kernel_rfl
theorem bs_parts (P : PT) (W : World) : (Instr.buildSlice 51 1 #[(0, .agg (pl P).toArray)]).run Tryz.prog W = .ok (.slice (some ⟨W.heap.size, 0, none⟩) 1 1) (W.alloc (.cells (pl P).toArray 43)) := by kernel_rfl
theorem wpList_bs8 {ops : Array Oper} {rest : List Oper} {op : Oper} {a : Go.Act} {w : World} {Q : Exit → Go.Act → World → Prop} (hgd : op.guard = none) (t e : TypeId) (x : Operand) (ho : op.op = .buildSlice t 1 #[(0, x)]) (X : List Value) (hx : a.eval x = .agg X.toArray)
    (hrun : ∀ W, (Instr.buildSlice t 1 #[(0, .agg X.toArray)]).run Tryz.prog W = .ok (.slice (some ⟨W.heap.size, 0, none⟩) 1 1) (W.alloc (.cells X.toArray e)))
    (h : wpList Tryz.prog ops Q rest (a.put op.dst (.slice (some ⟨w.heap.size, 0, none⟩) 1 1)) (w.alloc (.cells X.toArray e))) : wpList Tryz.prog ops Q (op :: rest) a w :=
  wpList_plain hgd fun K hK => by
    have h2 := hK _ _ h
    unfold Oper.wp execOp
    simp only [ho]
    simp [hx, hrun]
    exact h2
section
variable (SB : World → Nat → (Nat → Prop) → St → Prop)
structure R1 (w : World) (g m : Nat) (v8 v9 : Value) (since : Int) (wr : World) (F : Nat → Prop) (S : St) (X : TR) : Prop where
  ids : ∃ ia icap, v8 = .slice ia X.length icap ∧ Row wr ia X.length (X.map Prod.fst) ∧ Aw F ia X.length
  was : ColX wr 43 24 cP v9 X
  own : ∀ b, v9.ownBlock = some b → ¬ F b
  sb : SB wr g F S
  told : Told (fun _ => True) (fun x P => (x, P) ∈ X) since S
  bd : Bd S m
  bel : Below w.heap.size w wr
  foot : ∀ b, F b → w.heap.size ≤ b
  len : X.length ≤ 256
  s0 : 0 ≤ since
  s1 : since ≤ 1000
end
section
variable {SB : World → Nat → (Nat → Prop) → St → Prop}
end
end Go.Proofs.YtkondkajpmafkaaGreat
