/-
  A field's append in a region that draws its order: laws for the walk.
-/
import Derived.Test.YtpobnmcjmclgbaaTapI
import Derived.Deep.AppendLies
namespace Go.Proofs.Ytpobnmcjmclgbaa
open Go.RowKit

section
variable {ops : Array Oper} {Q : Exit → Go.Act → World → Prop} {md : Region.Mode} {S : World → Prop}
theorem wpOp_run {i : Nat} {o : Oper} {v : Value} {a : Go.Act} {w w' : World} (hi : ops[i]? = some o) (hw : Region.wanted o (yielded ops a.tmps) = true) (hv : (execOp a.eval o).run Try.prog w = .ok (.value v) w') {K : Go.Act → World → Prop} (h : K (a.put o.dst v) w') : wpOp Try.prog ops Q i K a w := by
  unfold wpOp
  simp only [hi, hw, if_true, Oper.wp, hv, Oper.upon]
  exact .inl h
theorem sets_comm (L : Array Bool) (i j : Nat) : (L.setIfInBounds j true).setIfInBounds i true = (L.setIfInBounds i true).setIfInBounds j true := by
  by_cases c : i = j
  · subst c; rfl
  · exact Array.setIfInBounds_comm _ _ (fun e => c e.symm)
/-- a load and an alloc, whichever comes first -/
theorem wpAnyH_pair {i j : Nat} {oi oj : Oper} {v u : Value} {fuel : Nat} {listed : Array Bool} {a : Go.Act} {w w' : World} (hi : ops[i]? = some oi) (hj : ops[j]? = some oj)
    (hr : Region.ready md ops listed = [i, j]) (hri : Region.ready md ops (listed.setIfInBounds i true) = [j]) (hrj : Region.ready md ops (listed.setIfInBounds j true) = [i])
    (wi : Region.wanted oi (yielded ops a.tmps) = true) (wj : Region.wanted oj (yielded ops a.tmps) = true) (wi' : Region.wanted oi (yielded ops (a.put oj.dst u).tmps) = true) (wj' : Region.wanted oj (yielded ops (a.put oi.dst v).tmps) = true)
    (v1 : (execOp a.eval oi).run Try.prog w = .ok (.value v) w) (u1 : (execOp (a.put oi.dst v).eval oj).run Try.prog w = .ok (.value u) w')
    (u2 : (execOp a.eval oj).run Try.prog w = .ok (.value u) w') (v2 : (execOp (a.put oj.dst u).eval oi).run Try.prog w' = .ok (.value v) w')
    (hc : (a.put oj.dst u).put oi.dst v = (a.put oi.dst v).put oj.dst u) (hS : S w) (hS' : S w')
    (h : wpAnyH Try.prog md ops Q S fuel ((listed.setIfInBounds i true).setIfInBounds j true) ((a.put oi.dst v).put oj.dst u) w') : wpAnyH Try.prog md ops Q S (fuel + 1 + 1) listed a w := by
  refine wpAnyH_all hr (by simp) (fun q hq => ?_)
  simp only [List.mem_cons, List.not_mem_nil, or_false] at hq
  rcases hq with rfl | rfl
  · refine wpOp_run hi wi v1 ⟨hS, wpAnyH_all hri (by simp) (fun q hq => ?_)⟩
    simp only [List.mem_cons, List.not_mem_nil, or_false] at hq
    subst hq
    exact wpOp_run hj wj' u1 ⟨hS', h⟩
  · refine wpOp_run hj wj u2 ⟨hS', wpAnyH_all hrj (by simp) (fun q hq => ?_)⟩
    simp only [List.mem_cons, List.not_mem_nil, or_false] at hq
    subst hq
    refine wpOp_run hi wi' v2 ⟨hS', ?_⟩
    rw [hc, sets_comm]
    exact h
end
theorem exec_bs {a : Go.Act} {op : Oper} {w w' : World} {t : TypeId} {x : Operand} {val u : Value} (ho : op.op = .buildSlice t 1 #[(0, x)]) (hx : a.eval x = val) (hrun : (Instr.buildSlice t 1 #[(0, val)]).run Try.prog w = .ok u w') : (execOp a.eval op).run Try.prog w = .ok (.value u) w' := by
  unfold execOp
  simp only [ho]
  simp [hx, hrun]
theorem exec_cell {a : Go.Act} {op : Oper} {w : World} {t e : TypeId} {x : Operand} {ad : Addr} {v : Value} (ho : op.op = .load t x) (hx : a.eval x = .pointer (some ad)) (hu : Try.prog.underlying t = some (.slice e)) (hc : w.cell? ad = some v) : (execOp a.eval op).run Try.prog w = .ok (.value v) w := by
  have hl : (loadVar t ad).run Try.prog w = .ok v w := by
    simp [loadVar, isAgg, run_underlying hu, hc]
  unfold execOp
  simp only [ho, hx, Instr.loadAt, Instr.sureAddr, Sem.run_bind, Sem.run_pure, Result.andThen_ok, hl]

/-- a row more of a column: at the append -/
theorem wp_appC {op : Oper} {a : Go.Act} {w : World} {K : Go.Act → World → Prop} {Q : Exit → Go.Act → World → Prop} (ts tb : Operand) (t e : TypeId) (k by_ : Nat) (z : Value) (c : Int × PT → List Value)
    (ho : op.op = .call { callee := .builtin .append, args := #[ts, tb], argTypes := #[t, t] }) (hu : Try.prog.underlying t = some (.slice e))
    (hinfo : (Try.prog.info? e).map (fun i => (i.zero, i.size, i.bytes)) = some (some z, k, by_)) (hzs : z.cells.size = k) (hk : 0 < k) (hby : by_ ≤ 1000) (hc : ∀ x, (c x).length = k)
    (v : Value) (X : TR) (hs : a.eval ts = v) (hcol : ColX w e k c v X) (hX : X.length ≤ 2000) (y : Int × PT) (Y : List Value) (hY : Y = c y) (hY1 : ∀ u ∈ Y, u.oneCell' = true) (H : Nat) (hb : Blk w H e Y.toArray) (hx : a.eval tb = .slice (some ⟨H, 0, none⟩) 1 1)
    (h : ∀ g cap w', ColX w' e k c (.slice (some ⟨g, 0, none⟩) (X.length + 1) cap) (X ++ [y]) → w.grownBy w' v.ownBlock → (v.ownBlock = some g ∨ w.heap.size ≤ g) → K (a.put op.dst (.slice (some ⟨g, 0, none⟩) (X.length + 1) cap)) w') : op.wp Try.prog a w K Q := by
  obtain ⟨i0, hi0, hz0, hz1, hz2⟩ := info_parts hinfo
  refine wp_append_lies w ts tb t ho 0 e i0 z k by_ hu hi0 hz0 hz1 hz2 hzs hk v X.length (X.flatMap c) hs hcol ⟨H, 0, none⟩ 1 1 Y hx (by rw [hY, hc, Nat.one_mul]) (World.news_of_block hb) hY1 (by omega) (by unfold maxLen; omega) ?_ (Nat.zero_le _) w.heap.size rfl ?_
  · have : (X.length + 1) * by_ ≤ 2001 * 1000 := Nat.mul_le_mul (by omega) hby
    omega
  · intro g cap w' h1 h2 h3 _
    refine h g cap w' ?_ h2 (h3.imp id (fun e => by omega))
    show w'.ownsRow 0 e k _ (X ++ [y]).length ((X ++ [y]).flatMap c)
    rw [List.length_append, List.flatMap_append, List.flatMap_singleton, ← hY]
    exact h1

end Go.Proofs.Ytpobnmcjmclgbaa
