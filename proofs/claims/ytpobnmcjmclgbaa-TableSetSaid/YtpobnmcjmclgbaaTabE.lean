/-
  Rows and acts for the walk of layer 7.
-/
import Derived.Test.YtpobnmcjmclgbaaTabD
import Derived.Deep.QuietTactic
import Derived.Maps.AppendAt
import Derived.Deep.Cut
import Derived.Deep.CutRange
namespace Go.Proofs.Ytpobnmcjmclgbaa
open Go.RowKit

def zA : AT := (0, 0, zT, 0)
def zR : Int × PT := (0, zT)
/-- what is asked of cells of a type, n of them -/
def PXn (t : TypeId) (n : Nat) (X : List Value) : Prop := X.length = n ∧ (Try.prog.info? t).map (·.size) = some X.length ∧ (Try.prog.info? t).map (·.size) = some X.toArray.size ∧ X.toArray.all (·.oneCell') = true
theorem pxP (P : PT) : PXn 39 24 (pl P) := ⟨pl_len P, pl_size P, pl_size' P, pl_one P⟩
theorem pxA (x : AT) : PXn 41 27 (acells x) := ⟨acells_len x, act_size x, act_size' x, acells_one x⟩
theorem pxR (x : Int × PT) : PXn 47 25 (rcells x) := ⟨rcells_len x, rrow_size x, rrow_size' x, rcells_one x⟩
theorem laidX {t : TypeId} {n : Nat} {Z X : List Value} (hz : Z.length = n) (h : PXn t n X) (w : World) : Below w.heap.size w ((w.alloc (.cells Z.toArray t)).setCells w.heap.size 0 X) ∧ Blk ((w.alloc (.cells Z.toArray t)).setCells w.heap.size 0 X) w.heap.size t X.toArray :=
  ⟨below_setCells X (alloc_below _ _) (Nat.le_refl _), blk_store (Blk.new w t Z.toArray) (h.1.trans hz.symm)⟩
theorem thereX {t : TypeId} {n : Nat} {Z X : List Value} (hz : Z.length = n) (h : PXn t n X) (w : World) : (w.alloc (.cells Z.toArray t)).there w.heap.size 0 X.toArray.size := blk_there (Blk.new w t Z.toArray) (by rw [List.size_toArray, h.1, hz]; omega)
theorem one_mem {X : List Value} (h : X.toArray.all (·.oneCell') = true) : ∀ u ∈ X, u.oneCell' = true := fun u hu => by
  rw [← Array.all_toList] at h
  exact List.all_eq_true.1 h u (by simpa using hu)
theorem zAl : (acells zA).length = 27 := rfl
theorem zRl : (rcells zR).length = 25 := rfl
theorem zPl : (pl zT).length = 24 := rfl
theorem OwnR.keep {w w' : World} {base n : Nat} {v : Value} {T : TR} (h : OwnR w base v n T) (hb : Below w.heap.size w w') : OwnR w' base v n T := by
  refine ⟨h.1, h.2.imp id ?_⟩
  rintro ⟨g, cap, cur, hv, hg, hh, hr⟩
  exact ⟨g, cap, cur, hv, hg, (hb.block g (Array.getElem?_eq_some_iff.1 hh).1).trans hh, hr⟩
theorem ownR_lt {w : World} {base n : Nat} {v : Value} {T : TR} (h : OwnR w base v n T) : ∀ g, v.ownBlock = some g → g < w.heap.size := fun g hg => (World.ownsRow.lt h g hg).2
theorem size_sets : ∀ (vs : List Value) (w : World) (g o : Nat), (w.setCells g o vs).heap.size = w.heap.size
  | [], _, _, _ => rfl
  | v :: vs, w, g, o => by
    show ((w.setCell ⟨g, o, none⟩ v).setCells g (o + 1) vs).heap.size = _
    rw [size_sets vs]
    simp
theorem own_far {w : World} {base n gg o : Nat} {v : Value} {T : TR} (h : OwnR w base v n T) (hlt : ∀ g, v.ownBlock = some g → g < gg) (vs : List Value) : OwnR (w.setCells gg o vs) base v n T := by
  refine ⟨h.1, h.2.imp id ?_⟩
  rintro ⟨g, cap, cur, hv, hg, hh, hr⟩
  have hne : g < gg := hlt g (by rw [hv]; rfl)
  exact ⟨g, cap, cur, hv, hg, blk_setFar vs (show Blk w g 47 cur from hh) (by omega), hr⟩
theorem build_row (id : Int) (P : PT) (w : World) : (Instr.build 47 #[(0, .int .i64 id), (1, .agg (pl P).toArray)]).run Try.prog w = .ok (.agg (rcells (id, P)).toArray) w := by kernel_rfl
theorem build_rs (x : Int × PT) (W : World) : (Instr.buildSlice 29 1 #[(0, .agg (rcells x).toArray)]).run Try.prog W = .ok (.slice (some ⟨W.heap.size, 0, none⟩) 1 1) (W.alloc (.cells (rcells x).toArray 47)) := by kernel_rfl
/-- a slice of one row, a row of a name and parts -/
theorem wpList_bs {ops : Array Oper} {rest : List Oper} {op : Oper} {a : Act} {w : World} {Q : Exit → Act → World → Prop} (hgd : op.guard = none) (t e : TypeId) (x : Operand) (ho : op.op = .buildSlice t 1 #[(0, x)]) (X : List Value) (hx : a.eval x = .agg X.toArray)
    (hrun : ∀ W, (Instr.buildSlice t 1 #[(0, .agg X.toArray)]).run Try.prog W = .ok (.slice (some ⟨W.heap.size, 0, none⟩) 1 1) (W.alloc (.cells X.toArray e)))
    (h : wpList Try.prog ops Q rest (a.put op.dst (.slice (some ⟨w.heap.size, 0, none⟩) 1 1)) (w.alloc (.cells X.toArray e))) : wpList Try.prog ops Q (op :: rest) a w :=
  wpList_plain hgd fun K hK => by
    have h2 := hK _ _ h
    unfold Oper.wp execOp
    simp only [ho]
    simp [hx, hrun]
    exact h2
theorem wpList_bld {ops : Array Oper} {rest : List Oper} {op : Oper} {a : Act} {w : World} {Q : Exit → Act → World → Prop} (hgd : op.guard = none) (t : TypeId) (x y : Operand) (ho : op.op = .build t #[(0, x), (1, y)]) (vx vy vr : Value) (hx : a.eval x = vx) (hy : a.eval y = vy)
    (hrun : ∀ W, (Instr.build t #[(0, vx), (1, vy)]).run Try.prog W = .ok vr W)
    (h : wpList Try.prog ops Q rest (a.put op.dst vr) w) : wpList Try.prog ops Q (op :: rest) a w :=
  wpList_plain hgd fun K hK => by
    have h2 := hK _ _ h
    unfold Oper.wp execOp
    simp only [ho]
    simp [hx, hy, hrun]
    exact h2
theorem rowinfo : (Try.prog.info? 47).map (fun i => (i.zero, i.size, i.bytes)) = some (some (.agg (rcells zR).toArray), 25, 200) := by kernel_rfl
theorem away_new {L L' : Nat → Prop} {a : Option Addr} {n : Nat} {w : World} {T : TR} {z : Nat} (ha : Away L a n) (hr : RRow w a n T) (hz : w.heap.size ≤ z) (hl : ∀ b, L' b → L b ∨ z ≤ b) : Away L' a n := by
  rcases ha with h0 | ha
  · exact .inl h0
  · rcases hr.2 with h0 | ⟨b, e, hb, _⟩
    · exact .inl h0
    · refine .inr (fun c hc => ?_)
      have : c = b := by rw [e] at hc; simpa using hc.symm
      subst this
      intro hL
      rcases hl c hL with h | h
      · exact ha c e h
      · omega

theorem ARow.at_ {w : World} {a : Option Addr} {n : Nat} {As : List AT} (h : ARow w a n As) {i : Nat} (hi : i < n) : ∃ b off x, a = some ⟨b, off, none⟩ ∧ w.rangeAt b (off + i * 27) (acells x) ∧ 0 ≤ x.1 ∧ x.1 ≤ 255 := by
  rcases h.2.2 with h0 | ⟨b, off, e, _, hr⟩
  · omega
  · exact ⟨b, off, _, e, (hr i hi).1, (hr i hi).2⟩

theorem OwnR.alloc_ {w : World} {base n : Nat} {v : Value} {T : TR} (h : OwnR w base v n T) (o : Obj) : OwnR (w.alloc o) base v n T := h.keep (alloc_below w o)
/-- a row more -/
theorem wpList_appR {ops : Array Oper} {rest : List Oper} {op : Oper} {a : Act} {w : World} {Q : Exit → Act → World → Prop} (hgd : op.guard = none) (ts tb : Operand) (ho : op.op = .call { callee := .builtin .append, args := #[ts, tb], argTypes := #[29, 29] })
    (base n : Nat) (v : Value) (Nx : TR) (hs : a.eval ts = v) (x : Int × PT) (X : List Value) (hX : X = rcells x) (hx : a.eval tb = .slice (some ⟨w.heap.size, 0, none⟩) 1 1) (hown : OwnR w base v n Nx) (hn : n ≤ 1000) (hb : base ≤ w.heap.size)
    (h : ∀ v' w', OwnR w' base v' (n + 1) (Nx ++ [x]) → (w.alloc (.cells X.toArray 47)).grownBy w' v.ownBlock → wpList Try.prog ops Q rest (a.put op.dst v') w') : wpList Try.prog ops Q (op :: rest) a (w.alloc (.cells X.toArray 47)) := by
  obtain ⟨i0, hi0, hz0, hz1, hz2⟩ := info_parts rowinfo
  refine wpList_append_own _ hgd ts tb 29 ho base 47 i0 (.agg (rcells zR).toArray) 25 200 Try.underlying29 hi0 hz0 hz1 hz2 rfl (by decide) v n (flatR Nx) hs (hown.alloc_ _) ⟨w.heap.size, 0, none⟩ 1 1 X hx (by rw [hX]; rfl) (newsR w X 47) (by rw [hX]; exact one_mem (rcells_one x)) (by unfold maxLen; omega) (by omega) (by rw [World.size_alloc]; omega) ?_
  intro v' w' h1 h2 _
  refine h v' w' ?_ h2
  unfold OwnR
  rw [flatR_snoc, ← hX]
  exact h1

end Go.Proofs.Ytpobnmcjmclgbaa
