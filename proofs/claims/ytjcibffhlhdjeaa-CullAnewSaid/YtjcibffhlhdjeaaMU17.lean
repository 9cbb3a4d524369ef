/-
  22 texts in one file, each with its own heading.
-/
import Derived.Test.YtjcibffhlhdjeaaMU16
import Derived.Test.YtjcibffhlhdjeaaMU14
import Derived.Deep.RegionHeld3
import Derived.Deep.QuietTactic
import Derived.Maps.AppendAt
import Derived.Deep.Cut
import Derived.Deep.CutRange
import Derived.Deep.AppendLies
/-
  The reference's pool inside a bigger block: what its Live, Take, Drop and All answer.
-/
namespace Go.Proofs.Ytjcibffhlhdjeaa
open Go.RowKit

section
variable {w : World} {g : Nat} {t : TypeId} {N : Nat} {E : Nat → Value} {R : Int} {G : Nat → Int} {L : Nat → Bool} {k : Nat}
end

def foot (g : Nat) (v : Nat → Value) (b : Nat) : Prop := b = g ∨ ∃ i, i < 8 ∧ (v i).ownBlock = some b
structure Step (w w' : World) (g : Nat) (v v' : Nat → Value) : Prop where
  fr : Fr w w' (foot g v)
  new : ∀ b, foot g v' b → foot g v b ∨ w.heap.size ≤ b
theorem blk_over {w : World} {g : Nat} {t : TypeId} {Z Y : List Value} (h : Blk w g t Z.toArray) (e : Y.length = Z.length) : Blk (w.setCells g 0 Y) g t Y.toArray := by
  have := blk_setCells Y (o := 0) h (by omega)
  rwa [splice_all e] at this
theorem Fr.of {w w' : World} {L M : Nat → Prop} (h : Fr w w' L) (e : ∀ b, L b → M b) : Fr w w' M := ⟨h.1, h.2.1, h.2.2.1, h.2.2.2.1, fun b hb hn => h.2.2.2.2 b hb (fun c => hn (e b c))⟩

section
variable {ops : Array Oper} {Q : Exit → Go.Act → World → Prop} {md : Region.Mode} {S : World → Prop}
theorem wpOp_run {i : Nat} {o : Oper} {v : Value} {a : Go.Act} {w w' : World} (hi : ops[i]? = some o) (hw : Region.wanted o (yielded ops a.tmps) = true) (hv : (execOp a.eval o).run Try.prog w = .ok (.value v) w') {K : Go.Act → World → Prop} (h : K (a.put o.dst v) w') : wpOp Try.prog ops Q i K a w := by
  unfold wpOp
  simp only [hi, hw, if_true, Oper.wp, hv, Oper.upon]
  exact .inl h
theorem sets_comm (L : Array Bool) (i j : Nat) : (L.setIfInBounds j true).setIfInBounds i true = (L.setIfInBounds i true).setIfInBounds j true := by
  by_cases c : i = j
  · subst c; rfl
  · exact Array.setIfInBounds_comm _ _ (fun e => c e.symm)
theorem wpAnyH_pair {i j : Nat} {oi oj : Oper} {v u : Value} {fuel : Nat} {listed : Array Bool} {a : Go.Act} {w w' : World} (hi : ops[i]? = some oi) (hj : ops[j]? = some oj)
    (hr : Region.ready md ops listed = [i, j]) (hri : Region.ready md ops (listed.setIfInBounds i true) = [j]) (hrj : Region.ready md ops (listed.setIfInBounds j true) = [i])
    (wi : Region.wanted oi (yielded ops a.tmps) = true) (wj : Region.wanted oj (yielded ops a.tmps) = true) (wi' : Region.wanted oi (yielded ops (a.put oj.dst u).tmps) = true) (wj' : Region.wanted oj (yielded ops (a.put oi.dst v).tmps) = true)
    (v1 : (execOp a.eval oi).run Try.prog w = .ok (.value v) w) (u1 : (execOp (a.put oi.dst v).eval oj).run Try.prog w = .ok (.value u) w')
    (u2 : (execOp a.eval oj).run Try.prog w = .ok (.value u) w') (v2 : (execOp (a.put oj.dst u).eval oi).run Try.prog w' = .ok (.value v) w')
    (hc : (a.put oj.dst u).put oi.dst v = (a.put oi.dst v).put oj.dst u) (hS : S w) (hS' : S w')
    (h : wpAnyH Try.prog md ops Q S fuel ((listed.setIfInBounds i true).setIfInBounds j true) ((a.put oi.dst v).put oj.dst u) w') : wpAnyH Try.prog md ops Q S (fuel + 1 + 1) listed a w := by
  refine wpAnyH_all hr (by simp) (fun q hq => ?_)
  simp only [List.mem_cons, List.not_mem_nil, or_false] at hq
  rcases hq with rfl | rfl
  · refine wpOp_run hi wi v1 ⟨hS, wpAnyH_all hri (by simp) (fun q hq => ?_)⟩
    simp only [List.mem_cons, List.not_mem_nil, or_false] at hq
    subst hq
    exact wpOp_run hj wj' u1 ⟨hS', h⟩
  · refine wpOp_run hj wj u2 ⟨hS', wpAnyH_all hrj (by simp) (fun q hq => ?_)⟩
    simp only [List.mem_cons, List.not_mem_nil, or_false] at hq
    subst hq
    refine wpOp_run hi wi' v2 ⟨hS', ?_⟩
    rw [hc, sets_comm]
    exact h
end
theorem exec_bs {a : Go.Act} {op : Oper} {w w' : World} {t : TypeId} {x : Operand} {val u : Value} (ho : op.op = .buildSlice t 1 #[(0, x)]) (hx : a.eval x = val) (hrun : (Instr.buildSlice t 1 #[(0, val)]).run Try.prog w = .ok u w') : (execOp a.eval op).run Try.prog w = .ok (.value u) w' := by
  unfold execOp
  simp only [ho]
  simp [hx, hrun]
theorem exec_cell {a : Go.Act} {op : Oper} {w : World} {t e : TypeId} {x : Operand} {ad : Addr} {v : Value} (ho : op.op = .load t x) (hx : a.eval x = .pointer (some ad)) (hu : Try.prog.underlying t = some (.slice e)) (hc : w.cell? ad = some v) : (execOp a.eval op).run Try.prog w = .ok (.value v) w := by
  have hl : (loadVar t ad).run Try.prog w = .ok v w := by
    simp [loadVar, isAgg, run_underlying hu, hc]
  unfold execOp
  simp only [ho, hx, Instr.loadAt, Instr.sureAddr, Sem.run_bind, Sem.run_pure, Result.andThen_ok, hl]

theorem wpList_bs8 {ops : Array Oper} {rest : List Oper} {op : Oper} {a : Go.Act} {w : World} {Q : Exit → Go.Act → World → Prop} (hgd : op.guard = none) (t e : TypeId) (x : Operand) (ho : op.op = .buildSlice t 1 #[(0, x)]) (X : List Value) (hx : a.eval x = .agg X.toArray)
    (hrun : ∀ W, (Instr.buildSlice t 1 #[(0, .agg X.toArray)]).run Try.prog W = .ok (.slice (some ⟨W.heap.size, 0, none⟩) 1 1) (W.alloc (.cells X.toArray e)))
    (h : wpList Try.prog ops Q rest (a.put op.dst (.slice (some ⟨w.heap.size, 0, none⟩) 1 1)) (w.alloc (.cells X.toArray e))) : wpList Try.prog ops Q (op :: rest) a w :=
  wpList_plain hgd fun K hK => by
    have h2 := hK _ _ h
    unfold Oper.wp execOp
    simp only [ho]
    simp [hx, hrun]
    exact h2
section
variable (SB : World → Nat → (Nat → Prop) → St → Prop)
end
section
variable {SB : World → Nat → (Nat → Prop) → St → Prop}
end
section
variable {S : St} {tv : Nat → Value} {cv gv : Value} {i : Nat}
end
section
variable {w w' : World} {g : Nat} {S S' : St} {tv tv' : Nat → Value} {cv cv' gv : Value}
end

theorem wpList_bldz {ops : Array Oper} {rest : List Oper} {op : Oper} {a : Go.Act} {w : World} {Q : Exit → Go.Act → World → Prop} (hgd : op.guard = none) (t : TypeId) (ho : op.op = .build t #[]) (vr : Value)
    (hrun : ∀ W, (Instr.build t #[]).run Try.prog W = .ok vr W)
    (h : wpList Try.prog ops Q rest (a.put op.dst vr) w) : wpList Try.prog ops Q (op :: rest) a w :=
  wpList_plain hgd fun K hK => by
    have h2 := hK _ _ h
    unfold Oper.wp execOp
    simp only [ho]
    simp [hrun]
    exact h2
theorem Fr.two {a b d : World} {F F' : Nat → Prop} (h : Fr a b F) (h' : Fr b d F') (hn : ∀ x, F' x → F x ∨ a.heap.size ≤ x) : Fr a d F :=
  ⟨h'.1.trans h.1, h'.2.1.trans h.2.1, h'.2.2.1.trans h.2.2.1, Nat.le_trans h.2.2.2.1 h'.2.2.2.1, fun x hx hf => (h'.2.2.2.2 x (Nat.lt_of_lt_of_le hx h.2.2.2.1) (fun c => (hn x c).elim (fun d => hf d) (fun d => by omega))).trans (h.2.2.2.2 x hx hf)⟩
end Go.Proofs.Ytjcibffhlhdjeaa
