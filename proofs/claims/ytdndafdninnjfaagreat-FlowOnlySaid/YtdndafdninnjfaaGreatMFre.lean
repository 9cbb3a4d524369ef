/-
  2 texts in one file, each with its own heading.
-/
import Derived.Test.YtdndafdninnjfaaGreatMQFlrD
/-
  What same of the laws of layer 10 answers, for any package that answers as the bundle says.
-/
namespace Go.Proofs.YtdndafdninnjfaaGreat
open Go.RowKit

theorem cFs_eqE (s : Stt) : cFs s = lM s.wo ++ [.bool s.sh] := rfl
theorem cFs_oneE (s : Stt) : ∀ u ∈ cFs s, u.oneCell' = true := fun u hu => by
  rw [cFs_eqE] at hu
  rcases List.mem_append.1 hu with h | h
  · exact lM_one _ u h
  · rw [List.mem_singleton.1 h]; rfl
structure FE (X : List Value) : Prop where
  len : X.length = 13
  sizea : (Tryz.prog.info? 48).map (·.size) = some X.toArray.size
  onea : X.toArray.all (·.oneCell') = true
theorem fe_any (s : Stt) : FE (cFs s) := ⟨rfl, by kernel_rfl, all_oneCell_toArray (cFs_oneE s)⟩
section
variable {FB : World → Nat → (Nat → Prop) → FD → Prop}
variable {w0 w : World} {gp gr : Nat} {Fp Fq : Nat → Prop}
end
end Go.Proofs.YtdndafdninnjfaaGreat
/-
  The live question of the laws of layer 10, for any package that answers as the bundle says.
-/
namespace Go.Proofs.YtdndafdninnjfaaGreat
open Go.RowKit

section
variable {FB : World → Nat → (Nat → Prop) → FD → Prop}
/-- it stays behind w, and so does what is beside it -/
theorem ChX.low {w w1 w2 : World} {g : Nat} {F : Nat → Prop} {D : FD} (h : ChX FB w1 w2 g F D) (hb : Below w.heap.size w w1) (hF : ∀ b, F b → w.heap.size ≤ b) : ∃ F', FB w2 g F' D ∧ (∀ b, F' b → w.heap.size ≤ b) ∧ Below w.heap.size w w2 ∧ (∀ b, b < w1.heap.size → ¬ F b → w2.heap[b]? = w1.heap[b]? ∧ ¬ F' b) := by
  obtain ⟨F', h1, h2, h3⟩ := h
  exact ⟨F', h1, fun b c => (h3 b c).elim (hF b) (fun d => Nat.le_trans hb.size d), Fr.below h2 hb hF hb.size, fun b hl hn => ⟨h2.2.2.2.2 b hl hn, fun c => (h3 b c).elim hn (fun d => by omega)⟩⟩
end
theorem rowx_lit {w : World} {g : Nat} {t : TypeId} {X : List Nd} (h : Blk w g t (X.flatMap cNd).toArray) (hl : X.length ≤ 1000) : NRow w (some ⟨g, 0, none⟩) X.length X := by
  refine ⟨rfl, by omega, Or.inr ⟨g, 0, rfl, h.lt, fun i x hx => ?_⟩⟩
  have := blk_range h (i * 15) 15
  rw [flatx_at cNd_len X i x hx] at this
  rw [Nat.zero_add]
  exact this
theorem wpList_bs3 {ops : Array Oper} {rest : List Oper} {op : Oper} {a : Go.Act} {w : World} {Q : Exit → Go.Act → World → Prop} (hgd : op.guard = none) (t e : TypeId) (x y z : Operand) (ho : op.op = .buildSlice t 3 #[(0, x), (1, y), (2, z)]) (X Y Z V : List Value) (hx : a.eval x = .agg X.toArray) (hy : a.eval y = .agg Y.toArray) (hz : a.eval z = .agg Z.toArray)
    (hrun : ∀ W, (Instr.buildSlice t 3 #[(0, .agg X.toArray), (1, .agg Y.toArray), (2, .agg Z.toArray)]).run Tryz.prog W = .ok (.slice (some ⟨W.heap.size, 0, none⟩) 3 3) (W.alloc (.cells V.toArray e)))
    (h : wpList Tryz.prog ops Q rest (a.put op.dst (.slice (some ⟨w.heap.size, 0, none⟩) 3 3)) (w.alloc (.cells V.toArray e))) : wpList Tryz.prog ops Q (op :: rest) a w :=
  wpList_plain hgd fun K hK => by
    have h2 := hK _ _ h
    unfold Oper.wp execOp
    simp only [ho]
    simp [hx, hy, hz, hrun]
    exact h2
theorem wpList_bld4f {ops : Array Oper} {rest : List Oper} {op : Oper} {a : Go.Act} {w : World} {Q : Exit → Go.Act → World → Prop} (hgd : op.guard = none) (t : TypeId) (x y z u : Operand) (ho : op.op = .build t #[(0, x), (1, y), (2, z), (3, u)]) (vx vy vz vu vr : Value) (hx : a.eval x = vx) (hy : a.eval y = vy) (hz : a.eval z = vz) (hu : a.eval u = vu)
    (hrun : ∀ W, (Instr.build t #[(0, vx), (1, vy), (2, vz), (3, vu)]).run Tryz.prog W = .ok vr W)
    (h : wpList Tryz.prog ops Q rest (a.put op.dst vr) w) : wpList Tryz.prog ops Q (op :: rest) a w :=
  wpList_plain hgd fun K hK => by
    have h2 := hK _ _ h
    unfold Oper.wp execOp
    simp only [ho]
    simp [hx, hy, hz, hu, hrun]
    exact h2
def mvA : Nat → Int := fun i => [65536, 0, 0, 65536, 0, 65536, 0, 0, 0, 0, 65536, 0].getD i 0
def nA (i p : Int) (h : Bool) : Nd := ⟨i, p, mvA, h⟩
def lA1 : List Nd := [nA 4 7 false, nA 7 (-1) true, nA 9 (-1) false]
def lA2 : List Nd := [nA 7 4 false]
def lA3 : List Nd := [nA 7 (-1) false]
def dA1 : FD := putFD FD0 lA1
def dA2 : FD := runD dA1
def dA3 : FD := putFD dA2 lA3
def dA4 : FD := runD dA3
theorem bldA3 (a b : Int) (W : World) : (Instr.build 59 #[(0, .int .i64 a), (1, .int .i64 b), (2, .agg (lM mvA).toArray)]).run Tryz.prog W = .ok (.agg (cNd (nA a b false)).toArray) W := by kernel_rfl
theorem bldA4 (a b : Int) (W : World) : (Instr.build 59 #[(0, .int .i64 a), (1, .int .i64 b), (2, .agg (lM mvA).toArray), (3, .bool true)]).run Tryz.prog W = .ok (.agg (cNd (nA a b true)).toArray) W := by kernel_rfl
theorem bsA3 (x y z : Nd) (W : World) : (Instr.buildSlice 23 3 #[(0, .agg (cNd x).toArray), (1, .agg (cNd y).toArray), (2, .agg (cNd z).toArray)]).run Tryz.prog W = .ok (.slice (some ⟨W.heap.size, 0, none⟩) 3 3) (W.alloc (.cells ([x, y, z].flatMap cNd).toArray 59)) := by kernel_rfl
theorem mvA_move (w : World) : Calls Tryz.prog 14 #[.agg #[.int .i64 65536, .int .i64 0, .int .i64 0]] w fun e w' => e = .returned (.agg (lM mvA).toArray) ∧ Below w.heap.size w w' := rmove_xyz 65536 0 0 w
theorem rgA (i p : Int) (h : Bool) (hi : Rg i) (hp : Rg p) : Rg (nA i p h).id ∧ Rg (nA i p h).par := ⟨hi, hp⟩
theorem rgA1 : rgN lA1 := by
  intro x hx
  unfold lA1 at hx
  simp only [List.mem_cons, List.not_mem_nil, or_false] at hx
  rcases hx with rfl | rfl | rfl <;> exact rgA _ _ _ (by decide) (by decide)
theorem rgA2 : rgN lA2 := by
  intro x hx
  rw [List.mem_singleton.1 hx]
  exact rgA _ _ _ (by decide) (by decide)
theorem rgA3 : rgN lA3 := by
  intro x hx
  rw [List.mem_singleton.1 hx]
  exact rgA _ _ _ (by decide) (by decide)
theorem okA1 : DOk dA1 := DOk.zero.put rgA1
theorem okA2 : DOk dA2 := okA1.run
theorem okA3 : DOk dA3 := okA2.put rgA3
theorem okA4 : DOk dA4 := okA3.run
theorem eA : putFE FD0 lA1 = 0 ∧ runE dA1 = 0 ∧ touchN dA1 = [7, 4, 9] ∧ putFE dA2 lA2 = 8 ∧ runE dA3 = 0 ∧ touchN dA3 = [7, 4] ∧ dA4.steps = 5 := by decide +kernel
theorem sA : (stateN dA2 4).isSome = true ∧ ((stateN dA2 4).getD zSt).sh = false ∧ ((stateN dA2 4).getD zSt).wo 3 = 131072 ∧ (stateN dA4 4).isSome = true ∧ ((stateN dA4 4).getD zSt).sh = true := by decide +kernel
theorem lenA : dA1.L.length = 3 ∧ dA2.L.length = 3 ∧ dA3.L.length = 3 ∧ dA4.L.length = 3 ∧ dA1.steps ≤ 1000 ∧ dA3.steps ≤ 1000 := by decide +kernel
end Go.Proofs.YtdndafdninnjfaaGreat
