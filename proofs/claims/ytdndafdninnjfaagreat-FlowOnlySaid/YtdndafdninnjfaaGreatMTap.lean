/-
  15 texts in one file, each with its own heading.
-/
import Derived.Test.YtdndafdninnjfaaGreatMSta
import Derived.Test.YtdndafdninnjfaaGreatMTab
import Derived.Deep.RegionHeld3
import Derived.Deep.QuietTactic
import Derived.Maps.AppendAt
import Derived.Deep.Cut
import Derived.Deep.CutRange
import Derived.Deep.AppendLies
/-
  Fits, an act's entity, and an act of the law of layer 8, for any package that answers as the bundle says.
-/
namespace Go.Proofs.YtdndafdninnjfaaGreat
open Go.RowKit

/-- a slice of acts -/
def ARow8 (w : World) (a : Option Addr) (len : Nat) (xs : List A8) : Prop := xs.length = len ∧ len ≤ 9223372036854775807 ∧ (len = 0 ∨ ∃ b off, a = some ⟨b, off, none⟩ ∧ b < w.heap.size ∧ ∀ i x, xs[i]? = some x → w.rangeAt b (off + i * 29) (c8 x) ∧ ok8 w x)
theorem ok8.keep {w w' : World} {x : A8} (h : ok8 w x) (hb : Below w.heap.size w w') : ok8 w' x := ⟨h.1, h.2.1, h.2.2.1, h.2.2.2.1, row_keep h.2.2.2.2 hb⟩
theorem ARow8.keep {w w' : World} {a : Option Addr} {n : Nat} {xs : List A8} (h : ARow8 w a n xs) (hb : Below w.heap.size w w') : ARow8 w' a n xs := ⟨h.1, h.2.1, h.2.2.imp id (fun ⟨b, o, e, hl, hr⟩ => ⟨b, o, e, Nat.lt_of_lt_of_le hl hb.size, fun i x hx => ⟨range_same (hr i x hx).1 (hb.block b hl), (hr i x hx).2.keep hb⟩⟩)⟩
theorem ARow8.at_ {w : World} {a : Option Addr} {n : Nat} {xs : List A8} (h : ARow8 w a n xs) {i : Nat} (hi : i < n) : ∃ b off x, a = some ⟨b, off, none⟩ ∧ xs[i]? = some x ∧ w.rangeAt b (off + i * 29) (c8 x) ∧ ok8 w x := by
  obtain ⟨h1, h2, h3⟩ := h
  rcases h3 with h3 | ⟨b, off, e, hb, hr⟩
  · omega
  · have hx : xs[i]? = some (xs[i]'(by omega)) := List.getElem?_eq_getElem (by omega)
    exact ⟨b, off, _, e, hx, hr i _ hx⟩
section
variable {SB : World → Nat → (Nat → Prop) → St → Prop}
end
end Go.Proofs.YtdndafdninnjfaaGreat
/-
  The live question of the law of layer 8, for any package that answers as the bundle says.
-/
namespace Go.Proofs.YtdndafdninnjfaaGreat
open Go.RowKit

theorem psame_yes {a b : Option Addr} {n m cap cap' : Nat} {xs : List Int} {w : World} (row : Row w a n xs) (row' : Row w b m xs) : Calls Tryz.prog 16 #[.slice a n cap, .slice b m cap'] w fun e w' => e = .returned (.bool true) ∧ Below w.heap.size w w' :=
  (psame_any a b n m cap cap' xs xs w row row').mono fun _ _ k => ⟨by rw [k.1]; simp, k.2⟩
section
variable {SB : World → Nat → (Nat → Prop) → St → Prop}
theorem Chg.step {w0 w1 w2 : World} {B g : Nat} {F : Nat → Prop} {S : St} (h : Chg SB w1 w2 g F S) (hb : Below B w0 w1) (hF : ∀ b, F b → B ≤ b) (hs : B ≤ w1.heap.size) : ∃ F', SB w2 g F' S ∧ Below B w0 w2 ∧ (∀ b, F' b → B ≤ b) ∧ B ≤ w2.heap.size := by
  obtain ⟨F', h1, h2, h3⟩ := h
  exact ⟨F', h1, Fr.below h2 hb hF hs, fun b hb => (h3 b hb).elim (fun c => hF b c) (fun c => Nat.le_trans hs c), Nat.le_trans hs h2.2.2.2.1⟩

end
end Go.Proofs.YtdndafdninnjfaaGreat
/-
  The reference's pool inside a bigger block: what its Live, Take, Drop and All answer.
-/
namespace Go.Proofs.YtdndafdninnjfaaGreat
open Go.RowKit

section
variable {w : World} {g : Nat} {t : TypeId} {N : Nat} {E : Nat → Value} {R : Int} {G : Nat → Int} {L : Nat → Bool} {k : Nat}
end

end Go.Proofs.YtdndafdninnjfaaGreat
/-
  A table as it landed, in memory: the block of the table and its eight columns; steps that change one column.
-/
namespace Go.Proofs.YtdndafdninnjfaaGreat
open Go.RowKit

/-- its memory -/
def foot (g : Nat) (v : Nat → Value) (b : Nat) : Prop := b = g ∨ ∃ i, i < 8 ∧ (v i).ownBlock = some b
/-- from world to world: all else stays, and what is new in its memory is new memory -/
structure Step (w w' : World) (g : Nat) (v v' : Nat → Value) : Prop where
  fr : Fr w w' (foot g v)
  new : ∀ b, foot g v' b → foot g v b ∨ w.heap.size ≤ b
theorem Step.refl (w : World) (g : Nat) (v : Nat → Value) : Step w w g v v := ⟨⟨rfl, rfl, rfl, Nat.le_refl _, fun _ _ _ => rfl⟩, fun _ h => Or.inl h⟩
theorem Step.trans {a b d : World} {g : Nat} {u v x : Nat → Value} (h : Step a b g u v) (h' : Step b d g v x) : Step a d g u x := by
  refine ⟨⟨h'.fr.1.trans h.fr.1, h'.fr.2.1.trans h.fr.2.1, h'.fr.2.2.1.trans h.fr.2.2.1, Nat.le_trans h.fr.2.2.2.1 h'.fr.2.2.2.1, fun k hk hn => ?_⟩, fun k hk => ?_⟩
  · refine (h'.fr.2.2.2.2 k (Nat.lt_of_lt_of_le hk h.fr.2.2.2.1) (fun c => ?_)).trans (h.fr.2.2.2.2 k hk hn)
    rcases h.new k c with c' | c'
    · exact hn c'
    · omega
  · rcases h'.new k hk with c | c
    · exact h.new k c
    · exact Or.inr (Nat.le_trans h.fr.2.2.2.1 c)
theorem Step.below {a b : World} {g : Nat} {v : Nat → Value} (hb : Below a.heap.size a b) : Step a b g v v :=
  ⟨⟨hb.os, hb.tape, hb.output, hb.size, fun k hk _ => hb.block k hk⟩, fun _ h => Or.inl h⟩
end Go.Proofs.YtdndafdninnjfaaGreat
/-
  What the landed table's at, put and cut answer, for each type of a column.
-/
namespace Go.Proofs.YtdndafdninnjfaaGreat
open Go.RowKit

theorem blk_over {w : World} {g : Nat} {t : TypeId} {Z Y : List Value} (h : Blk w g t Z.toArray) (e : Y.length = Z.length) : Blk (w.setCells g 0 Y) g t Y.toArray := by
  have := blk_setCells Y (o := 0) h (by omega)
  rwa [splice_all e] at this
end Go.Proofs.YtdndafdninnjfaaGreat
/-
  What the landed table's at, put and cut answer, for matrices and boxes.
-/
namespace Go.Proofs.YtdndafdninnjfaaGreat
open Go.RowKit

end Go.Proofs.YtdndafdninnjfaaGreat
/-
  A table as it landed: which rows its columns hold; what Len, there and Find answer.
-/
namespace Go.Proofs.YtdndafdninnjfaaGreat
open Go.RowKit

theorem Fr.of {w w' : World} {L M : Nat → Prop} (h : Fr w w' L) (e : ∀ b, L b → M b) : Fr w w' M := ⟨h.1, h.2.1, h.2.2.1, h.2.2.2.1, fun b hb hn => h.2.2.2.2 b hb (fun c => hn (e b c))⟩

end Go.Proofs.YtdndafdninnjfaaGreat
/-
  What the landed table's New, fits, shorten and write answer.
-/
namespace Go.Proofs.YtdndafdninnjfaaGreat
open Go.RowKit

end Go.Proofs.YtdndafdninnjfaaGreat
/-
  What the landed table's write, fits and New answer.
-/
namespace Go.Proofs.YtdndafdninnjfaaGreat
open Go.RowKit

theorem Step.drew {a b : World} {g : Nat} {u v : Nat → Value} (h : Step a b g u v) : Step a b.drew g u v := ⟨h.fr, h.new⟩
end Go.Proofs.YtdndafdninnjfaaGreat
/-
  What the landed table's fits and New answer.
-/
namespace Go.Proofs.YtdndafdninnjfaaGreat
open Go.RowKit

end Go.Proofs.YtdndafdninnjfaaGreat
/-
  What the landed table's read answers.
-/
namespace Go.Proofs.YtdndafdninnjfaaGreat
open Go.RowKit

end Go.Proofs.YtdndafdninnjfaaGreat
/-
  A field's append in a region that draws its order: laws for the walk.
-/
namespace Go.Proofs.YtdndafdninnjfaaGreat
open Go.RowKit

section
variable {ops : Array Oper} {Q : Exit → Go.Act → World → Prop} {md : Region.Mode} {S : World → Prop}
theorem wpOp_run {i : Nat} {o : Oper} {v : Value} {a : Go.Act} {w w' : World} (hi : ops[i]? = some o) (hw : Region.wanted o (yielded ops a.tmps) = true) (hv : (execOp a.eval o).run Tryz.prog w = .ok (.value v) w') {K : Go.Act → World → Prop} (h : K (a.put o.dst v) w') : wpOp Tryz.prog ops Q i K a w := by
  unfold wpOp
  simp only [hi, hw, if_true, Oper.wp, hv, Oper.upon]
  exact .inl h
theorem sets_comm (L : Array Bool) (i j : Nat) : (L.setIfInBounds j true).setIfInBounds i true = (L.setIfInBounds i true).setIfInBounds j true := by
  by_cases c : i = j
  · subst c; rfl
  · exact Array.setIfInBounds_comm _ _ (fun e => c e.symm)
/-- a load and an alloc, whichever comes first -/
theorem wpAnyH_pair {i j : Nat} {oi oj : Oper} {v u : Value} {fuel : Nat} {listed : Array Bool} {a : Go.Act} {w w' : World} (hi : ops[i]? = some oi) (hj : ops[j]? = some oj)
    (hr : Region.ready md ops listed = [i, j]) (hri : Region.ready md ops (listed.setIfInBounds i true) = [j]) (hrj : Region.ready md ops (listed.setIfInBounds j true) = [i])
    (wi : Region.wanted oi (yielded ops a.tmps) = true) (wj : Region.wanted oj (yielded ops a.tmps) = true) (wi' : Region.wanted oi (yielded ops (a.put oj.dst u).tmps) = true) (wj' : Region.wanted oj (yielded ops (a.put oi.dst v).tmps) = true)
    (v1 : (execOp a.eval oi).run Tryz.prog w = .ok (.value v) w) (u1 : (execOp (a.put oi.dst v).eval oj).run Tryz.prog w = .ok (.value u) w')
    (u2 : (execOp a.eval oj).run Tryz.prog w = .ok (.value u) w') (v2 : (execOp (a.put oj.dst u).eval oi).run Tryz.prog w' = .ok (.value v) w')
    (hc : (a.put oj.dst u).put oi.dst v = (a.put oi.dst v).put oj.dst u) (hS : S w) (hS' : S w')
    (h : wpAnyH Tryz.prog md ops Q S fuel ((listed.setIfInBounds i true).setIfInBounds j true) ((a.put oi.dst v).put oj.dst u) w') : wpAnyH Tryz.prog md ops Q S (fuel + 1 + 1) listed a w := by
  refine wpAnyH_all hr (by simp) (fun q hq => ?_)
  simp only [List.mem_cons, List.not_mem_nil, or_false] at hq
  rcases hq with rfl | rfl
  · refine wpOp_run hi wi v1 ⟨hS, wpAnyH_all hri (by simp) (fun q hq => ?_)⟩
    simp only [List.mem_cons, List.not_mem_nil, or_false] at hq
    subst hq
    exact wpOp_run hj wj' u1 ⟨hS', h⟩
  · refine wpOp_run hj wj u2 ⟨hS', wpAnyH_all hrj (by simp) (fun q hq => ?_)⟩
    simp only [List.mem_cons, List.not_mem_nil, or_false] at hq
    subst hq
    refine wpOp_run hi wi' v2 ⟨hS', ?_⟩
    rw [hc, sets_comm]
    exact h
end
theorem exec_bs {a : Go.Act} {op : Oper} {w w' : World} {t : TypeId} {x : Operand} {val u : Value} (ho : op.op = .buildSlice t 1 #[(0, x)]) (hx : a.eval x = val) (hrun : (Instr.buildSlice t 1 #[(0, val)]).run Tryz.prog w = .ok u w') : (execOp a.eval op).run Tryz.prog w = .ok (.value u) w' := by
  unfold execOp
  simp only [ho]
  simp [hx, hrun]
theorem exec_cell {a : Go.Act} {op : Oper} {w : World} {t e : TypeId} {x : Operand} {ad : Addr} {v : Value} (ho : op.op = .load t x) (hx : a.eval x = .pointer (some ad)) (hu : Tryz.prog.underlying t = some (.slice e)) (hc : w.cell? ad = some v) : (execOp a.eval op).run Tryz.prog w = .ok (.value v) w := by
  have hl : (loadVar t ad).run Tryz.prog w = .ok v w := by
    simp [loadVar, isAgg, run_underlying hu, hc]
  unfold execOp
  simp only [ho, hx, Instr.loadAt, Instr.sureAddr, Sem.run_bind, Sem.run_pure, Result.andThen_ok, hl]

/-- a row more of a column: at the append -/
theorem wp_appC {op : Oper} {a : Go.Act} {w : World} {K : Go.Act → World → Prop} {Q : Exit → Go.Act → World → Prop} (ts tb : Operand) (t e : TypeId) (k by_ : Nat) (z : Value) (c : Int × PT → List Value)
    (ho : op.op = .call { callee := .builtin .append, args := #[ts, tb], argTypes := #[t, t] }) (hu : Tryz.prog.underlying t = some (.slice e))
    (hinfo : (Tryz.prog.info? e).map (fun i => (i.zero, i.size, i.bytes)) = some (some z, k, by_)) (hzs : z.cells.size = k) (hk : 0 < k) (hby : by_ ≤ 1000) (hc : ∀ x, (c x).length = k)
    (v : Value) (X : TR) (hs : a.eval ts = v) (hcol : ColX w e k c v X) (hX : X.length ≤ 2000) (y : Int × PT) (Y : List Value) (hY : Y = c y) (hY1 : ∀ u ∈ Y, u.oneCell' = true) (H : Nat) (hb : Blk w H e Y.toArray) (hx : a.eval tb = .slice (some ⟨H, 0, none⟩) 1 1)
    (h : ∀ g cap w', ColX w' e k c (.slice (some ⟨g, 0, none⟩) (X.length + 1) cap) (X ++ [y]) → w.grownBy w' v.ownBlock → (v.ownBlock = some g ∨ w.heap.size ≤ g) → K (a.put op.dst (.slice (some ⟨g, 0, none⟩) (X.length + 1) cap)) w') : op.wp Tryz.prog a w K Q := by
  obtain ⟨i0, hi0, hz0, hz1, hz2⟩ := info_parts hinfo
  refine wp_append_lies w ts tb t ho 0 e i0 z k by_ hu hi0 hz0 hz1 hz2 hzs hk v X.length (X.flatMap c) hs hcol ⟨H, 0, none⟩ 1 1 Y hx (by rw [hY, hc, Nat.one_mul]) (World.news_of_block hb) hY1 (by omega) (by unfold maxLen; omega) ?_ (Nat.zero_le _) w.heap.size rfl ?_
  · have : (X.length + 1) * by_ ≤ 2001 * 1000 := Nat.mul_le_mul (by omega) hby
    omega
  · intro g cap w' h1 h2 h3 _
    refine h g cap w' ?_ h2 (h3.imp id (fun e => by omega))
    show w'.ownsRow 0 e k _ (X ++ [y]).length ((X ++ [y]).flatMap c)
    rw [List.length_append, List.flatMap_append, List.flatMap_singleton, ← hY]
    exact h1

end Go.Proofs.YtdndafdninnjfaaGreat
/-
  What the landed table's lengthen answers.
-/
namespace Go.Proofs.YtdndafdninnjfaaGreat
open Go.RowKit

/-- a block that is no part of a table stays -/
theorem Step.blk {w0 W : World} {g gp : Nat} {v0 v : Nat → Value} {t : TypeId} {C : Array Value} (st : Step w0 W g v0 v) (h : Blk w0 gp t C) (hn : ¬ foot g v0 gp) : Blk W gp t C := h.same (st.fr.2.2.2.2 gp h.lt hn)

end Go.Proofs.YtdndafdninnjfaaGreat
/-
  The reference's tables inside a bigger block: what its Find, fits, Add, Put, Cut and IDs of layer 7 answer.
-/
namespace Go.Proofs.YtdndafdninnjfaaGreat
open Go.RowKit

theorem run_append_no {t ty e : TypeId} {i : TypeInfo} {h0 : Nat} {w : World} (ht : Tryz.prog.underlying t = some (.slice e)) (hi : Tryz.prog.info? e = some i) : (Builtin.append_ #[t, t] ty #[.slice (some ⟨h0, 0, none⟩) 0 0, .slice none 0 0]).run Tryz.prog w = .ok (.slice (some ⟨h0, 0, none⟩) 0 0) w := by
  simp [Builtin.append_, run_underlying ht, sizeOf, typeInfo, hi, Builtin.lenOf, Builtin.firstCells, loadCells, loadCellsFrom, storeCells]
end Go.Proofs.YtdndafdninnjfaaGreat
/-
  All changes are told: the law's walk, for any package that answers as the bundle says.
-/
namespace Go.Proofs.YtdndafdninnjfaaGreat
open Go.RowKit

theorem Told.congr {N : St → Prop} {I J : Int → PT → Prop} {since : Int} {S : St} (h : Told N I since S) (e : ∀ x P, I x P ↔ J x P) : Told N J since S :=
  ⟨h.ws, h.now, fun x P hx => (h.chg x P hx).imp_left (e x P).1, fun x P hx => h.gon x P ((e x P).2 hx)⟩
theorem wpList_bs8 {ops : Array Oper} {rest : List Oper} {op : Oper} {a : Go.Act} {w : World} {Q : Exit → Go.Act → World → Prop} (hgd : op.guard = none) (t e : TypeId) (x : Operand) (ho : op.op = .buildSlice t 1 #[(0, x)]) (X : List Value) (hx : a.eval x = .agg X.toArray)
    (hrun : ∀ W, (Instr.buildSlice t 1 #[(0, .agg X.toArray)]).run Tryz.prog W = .ok (.slice (some ⟨W.heap.size, 0, none⟩) 1 1) (W.alloc (.cells X.toArray e)))
    (h : wpList Tryz.prog ops Q rest (a.put op.dst (.slice (some ⟨w.heap.size, 0, none⟩) 1 1)) (w.alloc (.cells X.toArray e))) : wpList Tryz.prog ops Q (op :: rest) a w :=
  wpList_plain hgd fun K hK => by
    have h2 := hK _ _ h
    unfold Oper.wp execOp
    simp only [ho]
    simp [hx, hrun]
    exact h2
theorem col_keep {w w' : World} {t : TypeId} {k : Nat} {c : Int × PT → List Value} {v : Value} {X : TR} (h : ColX w t k c v X) (hb : Below w.heap.size w w') : ColX w' t k c v X :=
  h.same (fun b e => hb.block b (World.ownsRow.lt h b e).2)
section
variable (SB : World → Nat → (Nat → Prop) → St → Prop)
end
section
variable {SB : World → Nat → (Nat → Prop) → St → Prop}
/-! the last questions -/
end
end Go.Proofs.YtdndafdninnjfaaGreat
