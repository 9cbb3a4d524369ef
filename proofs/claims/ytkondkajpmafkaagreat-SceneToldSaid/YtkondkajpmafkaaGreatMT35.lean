/-
  5 texts in one file, each with its own heading.
-/
import Derived.Test.YtkondkajpmafkaaGreatMT34
import Derived.Test.YtkondkajpmafkaaGreatMT31
/-
  A flow as plain data stays right: behind Put, Drop and Run; the acts of the laws of layer 10 as plain data.
-/
namespace Go.Proofs.YtkondkajpmafkaaGreat
open Go.RowKit

structure DOk (D : FD) : Prop where
  nod : (D.L.map Nd.id).Nodup
  wf : WF (treesN D.L)
  ok : ∀ n ∈ D.L, okM n.pl = true
  nn : ∀ n ∈ D.L, 0 ≤ n.id
  rg : ∀ n ∈ D.L, Rg n.id ∧ Rg n.par
  st : D.begun = true → ∀ x, (elF Nd.id D.L x).isSome = true → x ∉ touchN D → ∃ s, fate D.L x = (some s, 0) ∧ elF Stt.id D.sts x = some s
structure Bd10 (a m : Nat) (D : FD) : Prop where
  l : D.L.length ≤ m
  d : D.dirty.length ≤ 200 * m
  s : D.steps ≤ 200 * a
section
variable {FB : World → Nat → (Nat → Prop) → FD → Prop}
end
section
variable {w : World} {g : Nat} {D : FD} {vl vd vs : Value}
end
structure A10 where
  k : Int
  a : Option Addr
  n : Nat
  cap : Nat
  l : List Nd
  b : Option Addr
  m : Nat
  cap' : Nat
  ids : List Int
def c10 (x : A10) : List Value := [.int .u8 x.k, .slice x.a x.n x.cap, .slice x.b x.m x.cap']
theorem yieldsIf_bld4 {ops : Array Oper} {S : World → Prop} {op : Oper} {a : Go.Act} (hw : Region.wanted op (yielded ops a.tmps) = true) (t : TypeId) (x0 x1 x2 x3 : Operand) (ho : op.op = .build t #[(0, x0), (1, x1), (2, x2), (3, x3)]) (v0 v1 v2 v3 vr : Value) (h0 : a.eval x0 = v0) (h1 : a.eval x1 = v1) (h2 : a.eval x2 = v2) (h3 : a.eval x3 = v3)
    (hrun : ∀ W, (Instr.build t #[(0, v0), (1, v1), (2, v2), (3, v3)]).run Tryz.prog W = .ok vr W) : YieldsIf Tryz.prog ops S op vr a :=
  .inl ⟨hw, fun w _ => by
    unfold execOp
    simp only [ho]
    simp [h0, h1, h2, h3, hrun]⟩
theorem bld_nodeF (a b : Int) (M : Nat → Int) (h : Bool) (W : World) : (Instr.build 56 #[(0, .int .i64 a), (1, .int .i64 b), (2, .agg (lM M).toArray), (3, .bool h)]).run Tryz.prog W = .ok (.agg (cNd ⟨a, b, M, h⟩).toArray) W := by kernel_rfl
end Go.Proofs.YtkondkajpmafkaaGreat
