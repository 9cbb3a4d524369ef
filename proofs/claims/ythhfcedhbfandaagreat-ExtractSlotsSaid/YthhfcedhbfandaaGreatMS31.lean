/-
  3 texts in one file, each with its own heading.
-/
import Derived.Test.YthhfcedhbfandaaGreatMS18
import Derived.Test.YthhfcedhbfandaaGreatMS30
/-
  What the reference's All of layer 10 answers: all states, by definition.
-/
namespace Go.Proofs.YthhfcedhbfandaaGreat
open Go.RowKit

section
variable {w : World} {g : Nat} {D : FD} {vl vd vs : Value}
end
structure A10 where
  k : Int
  a : Option Addr
  n : Nat
  cap : Nat
  l : List Nd
  b : Option Addr
  m : Nat
  cap' : Nat
  ids : List Int
def c10 (x : A10) : List Value := [.int .u8 x.k, .slice x.a x.n x.cap, .slice x.b x.m x.cap']
theorem yieldsIf_bld4 {ops : Array Oper} {S : World → Prop} {op : Oper} {a : Go.Act} (hw : Region.wanted op (yielded ops a.tmps) = true) (t : TypeId) (x0 x1 x2 x3 : Operand) (ho : op.op = .build t #[(0, x0), (1, x1), (2, x2), (3, x3)]) (v0 v1 v2 v3 vr : Value) (h0 : a.eval x0 = v0) (h1 : a.eval x1 = v1) (h2 : a.eval x2 = v2) (h3 : a.eval x3 = v3)
    (hrun : ∀ W, (Instr.build t #[(0, v0), (1, v1), (2, v2), (3, v3)]).run Tryz.prog W = .ok vr W) : YieldsIf Tryz.prog ops S op vr a :=
  .inl ⟨hw, fun w _ => by
    unfold execOp
    simp only [ho]
    simp [h0, h1, h2, h3, hrun]⟩
theorem bld_nodeF (a b : Int) (M : Nat → Int) (h : Bool) (W : World) : (Instr.build 205 #[(0, .int .i64 a), (1, .int .i64 b), (2, .agg (lM M).toArray), (3, .bool h)]).run Tryz.prog W = .ok (.agg (cNd ⟨a, b, M, h⟩).toArray) W := by kernel_rfl
end Go.Proofs.YthhfcedhbfandaaGreat
