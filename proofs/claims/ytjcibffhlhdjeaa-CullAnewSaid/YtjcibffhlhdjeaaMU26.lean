/-
  4 texts in one file, each with its own heading.
-/
import Derived.Test.YtjcibffhlhdjeaaMU22
import Derived.Test.YtjcibffhlhdjeaaMU11
import Derived.Maps.OwnSet
import Derived.Maps.RangeWalk
import Derived.Shelf.SlIterI.Nil
import Derived.Test.YtjcibffhlhdjeaaProg
import Derived.Test.YtjcibffhlhdjeaaMU16
import Derived.Test.YtjcibffhlhdjeaaMU06
/-
  The landed cull in memory: its three maps as functions, its view; what stays where one part of it changes; a map that is gone through.
-/
namespace Go.Proofs.Ytjcibffhlhdjeaa
open Go.RowKit

theorem zvr15 (w : World) : (zeroValue 52).run Try.prog w = .ok (.agg (cRc zRc).toArray) w := by kernel_rfl
theorem zvf15 (w : World) : (zeroValue 36).run Try.prog w = .ok (.int .i64 0) w := by kernel_rfl
theorem zvx15 (w : World) : (zeroValue 71).run Try.prog w = .ok (.agg #[]) w := by kernel_rfl
theorem rc_simp (r : Rc) : ∀ u ∈ cRc r, simp1 u := fun u hu => by
  unfold cRc at hu
  simp only [List.mem_cons, List.not_mem_nil, or_false] at hu
  rcases hu with h | h | h | h | h | h | h | h | h | h | h | h
  · exact Or.inl ⟨_, _, h⟩
  · exact Or.inl ⟨_, _, h⟩
  · exact Or.inl ⟨_, _, h⟩
  · exact Or.inl ⟨_, _, h⟩
  · exact Or.inr ⟨_, h⟩
  · exact Or.inl ⟨_, _, h⟩
  · exact Or.inl ⟨_, _, h⟩
  · exact Or.inl ⟨_, _, h⟩
  · exact Or.inl ⟨_, _, h⟩
  · exact Or.inl ⟨_, _, h⟩
  · exact Or.inl ⟨_, _, h⟩
  · exact Or.inl ⟨_, _, h⟩
def rK15 : MK Rc := mkA 66 52 (fun o => .agg (cRc (o.getD zRc)).toArray) Try.underlying66 zvr15 (fun _ => ⟨_, rfl, rc_simp _⟩)
def xK15 : MK Unit := mkA 67 71 (fun _ => .agg #[]) Try.underlying67 zvx15 (fun _ => ⟨[], rfl, fun u hu => by cases hu⟩)
def fR15 : Value → Option (DataW Unit × List MemPlace)
  | .int .i64 y => some (.lit (.int .i64 y), [])
  | _ => none
def dK15 : MK Int where
  t := 68
  e := 36
  V o := .int .i64 (o.getD 0)
  E o := .lit (.int .i64 (o.getD 0))
  R := fR15
  ht := Try.underlying68
  hz := zvf15
  rv o := rfl
  inv v o ps h := by
    unfold fR15 at h
    split at h
    · simp at h
      rw [h.1]
    · cases h
section
variable {α : Type} {k : MK α} {w w' : World} {mb r : Nat} {m : Int → Option α} {left : Lit → Bool} {cnt : Nat}
theorem MF.clr15 (h : MF k w mb m) :
    ∃ w', (∀ ty, (Builtin.clear_ #[k.t] ty #[.map (some mb)]).run Try.prog w = .ok (.tuple #[]) w') ∧ MF k w' mb (fun _ => none) ∧ w.grownBy w' (some mb) := by
  obtain ⟨D, ⟨es, clock, hb, F, hs, hD⟩, hk⟩ := h
  refine ⟨Go.ChangeMaps.setBlock w mb (.map #[] clock), fun ty => ?_, ⟨.map [], ⟨#[], clock, Go.ChangeMaps.heap_setBlock_same hb _, ⟨by simp, Go.MapKept.stamped_empty _, by simp⟩, by simp, rfl⟩, fun _ _ => ⟨rfl, rfl⟩, fun x h => by cases h⟩, ?_⟩
  · simp [Builtin.clear_, run_underlying k.ht, Go.MapKept.run_getObj_map hb, Go.MapKept.run_setObj_map _ hb, Result.andThen, Go.ChangeMaps.setBlock]
  · exact World.mapTurned.grown ⟨es, clock, #[], clock, hb, rfl⟩
theorem MF.len15 (h : MF k w mb m) (K : List Int) (hn : K.Nodup) (hK : ∀ z, z ∈ K ↔ Rg z ∧ (m z).isSome = true) (ty : TypeId) :
    (Builtin.len_ #[k.t] ty #[.map (some mb)]).run Try.prog w = .ok (.int .i64 (K.length : Nat)) w := by
  obtain ⟨D, hD, hk, hr⟩ := h
  have hp : K.Perm (intKeys D) := CollectedI.perm (left := fun _ => false) ⟨hn, fun x => by
    rw [hK]
    exact ⟨fun q => ⟨by rw [(hk x q.1).2]; exact q.2, rfl⟩, fun q => ⟨hr x q.1, by rw [← (hk x (hr x q.1)).2]; exact q.1⟩⟩⟩ hD id_law Try.underlying46 (fun _ => rfl)
  have e := hp.length_eq
  have e2 : (intKeys D).length = Maps.size D := by
    obtain ⟨es, rfl, _⟩ := hD.entries id_law
    unfold intKeys
    rw [List.length_map, Maps.size_eq]
  rw [hD.len k.ht ty, e, e2]
def MRg15 (k : MK α) (w : World) (mb r : Nat) (m : Int → Option α) (left : Lit → Bool) (cnt : Nat) : Prop := ∃ D : DataW Unit, w.ranges Try.prog 46 k.R mb r 100000 D left cnt ∧ (∀ x, Rg x → D.atKey (.int .i64 x) (k.E none) = k.E (m x) ∧ Maps.has D (.int .i64 x) = (m x).isSome) ∧ ∀ x : Int, Maps.has D (.int .i64 x) = true → Rg x
theorem MF.range15 (h : MF k w mb m) : ∃ w' left cnt, (Instr.range k.t (.map (some mb))).run Try.prog w = .ok (.pointer (some ⟨w.heap.size, 0, none⟩)) w' ∧ MRg15 k w' mb w.heap.size m left cnt ∧ (∀ x, left (.int .i64 x) = true → (m x).isSome = true ∧ Rg x) ∧ (∀ x, Rg x → left (.int .i64 x) = (m x).isSome) ∧ w.grownBy w' none ∧ w'.heap.size = w.heap.size + 1 := by
  obtain ⟨D, hD, hk, hr⟩ := h
  obtain ⟨w', h1, h2, h3, h4⟩ := hD.range id_law (t := k.t) k.ht
  exact ⟨w', _, _, h1, ⟨D, h2, hk, hr⟩, fun x hx => ⟨by rw [← (hk x (hr x hx)).2]; exact hx, hr x hx⟩, fun x hx => (hk x hx).2, h3, h4⟩
theorem MRg15.left_eq (h : MRg15 k w mb r m left cnt) : w.rangeLeft mb r = cnt := by
  obtain ⟨D, hD, hk, hr⟩ := h
  exact hD.left_eq
theorem MRg15.lt (h : MRg15 k w mb r m left cnt) : r < w.heap.size := by
  obtain ⟨D, hD, hk, hr⟩ := h
  exact hD.lt
theorem MRg15.kept {row : Option Nat} (h : MRg15 k w mb r m left cnt) (hg : w.grownBy w' row) (hb' : some mb ≠ row) (hr' : some r ≠ row) : MRg15 k w' mb r m left cnt := by
  obtain ⟨D, hD, hk, hr⟩ := h
  exact ⟨D, hD.kept hg hb' hr', hk, hr⟩
theorem MRg15.next (h : MRg15 k w mb r m left cnt) (hl : ∀ x, left (.int .i64 x) = true → (m x).isSome = true ∧ Rg x) :
    ((∀ x, left (.int .i64 x) = false) ∧ ∀ ty, (Instr.next (.pointer (some ⟨r, 0, none⟩)) false ty).run Try.prog w = .ok (.tuple #[.bool false]) w) ∨
    ∃ x v w' cnt', (m x).isSome = true ∧ left (.int .i64 x) = true ∧ (∀ ty, (Instr.next (.pointer (some ⟨r, 0, none⟩)) false ty).run Try.prog w = .ok (.tuple #[.bool true, .int .i64 x, v]) w') ∧
      MRg15 k w' mb r m (fun z => left z && !z.sameKey (.int .i64 x)) cnt' ∧ cnt' < cnt ∧ w.grownBy w' (some r) ∧ w'.heap.size = w.heap.size ∧ (Instr.entry (.pointer (some ⟨r, 0, none⟩))).run Try.prog w' = .ok (.tuple #[.int .i64 x, v]) w' := by
  obtain ⟨D, hD, hk, hr⟩ := h
  rcases hD.next id_law 3 with ⟨h0, h1, h2⟩ | ⟨key, v, kl, y, w', cnt', h1, h2, h3, h4, h5, h6, h7, h8, h9, h10⟩
  · exact Or.inl ⟨fun x => h1 _, fun ty => h2⟩
  · obtain ⟨x, rfl, rfl, _⟩ := Maps.keyOf_int_inv Try.underlying46 h1
    obtain ⟨hs, hrg⟩ := hl x h2
    exact Or.inr ⟨x, v, w', cnt', hs, h2, fun ty => h5, ⟨D, h6, hk, hr⟩, h7, h8, h9, h10⟩
end
theorem same_key15 {x y : Int} : (Lit.int .i64 x).sameKey (.int .i64 y) = decide (x = y) := by
  by_cases e : x = y
  · subst e
    rw [decide_eq_true rfl]
    exact WideAt.sameKey_self trivial
  · rw [decide_eq_false e]
    cases h : (Lit.int .i64 x).sameKey (.int .i64 y) with
    | false => rfl
    | true => exact absurd (by have := WideAt.sameKey_eq h; injection this) e
theorem wpList_del15 {ops : Array Oper} {rest : List Oper} {op : Oper} {a : Go.Act} {w w' : World} {Q : Exit → Go.Act → World → Prop} (hgd : op.guard = none) (tm tx : Operand) (t k : TypeId)
    (ho : op.op = .call { callee := .builtin .delete, args := #[tm, tx], argTypes := #[t, k] }) (v u : Value) (hm : a.eval tm = v) (hx : a.eval tx = u)
    (hr : (Builtin.delete_ #[t, k] op.type #[v, u]).run Try.prog w = .ok (.tuple #[]) w') (h : wpList Try.prog ops Q rest (a.put op.dst (.tuple #[])) w') : wpList Try.prog ops Q (op :: rest) a w := by
  refine wpList_plain hgd fun K hK => ?_
  have h3 := hK _ _ h
  unfold Oper.wp execOp
  simp only [ho, resolve, invoke, builtin, Sem.run_bind, Sem.run_pure, Result.andThen_ok, List.map_toArray, List.map_cons, List.map_nil, hm, hx, hr]
  exact h3
theorem wpList_clr15 {ops : Array Oper} {rest : List Oper} {op : Oper} {a : Go.Act} {w w' : World} {Q : Exit → Go.Act → World → Prop} (hgd : op.guard = none) (tm : Operand) (t : TypeId)
    (ho : op.op = .call { callee := .builtin .clear, args := #[tm], argTypes := #[t] }) (v : Value) (hm : a.eval tm = v)
    (hr : (Builtin.clear_ #[t] op.type #[v]).run Try.prog w = .ok (.tuple #[]) w') (h : wpList Try.prog ops Q rest (a.put op.dst (.tuple #[])) w') : wpList Try.prog ops Q (op :: rest) a w := by
  refine wpList_plain hgd fun K hK => ?_
  have h3 := hK _ _ h
  unfold Oper.wp execOp
  simp only [ho, resolve, invoke, builtin, Sem.run_bind, Sem.run_pure, Result.andThen_ok, List.map_toArray, List.map_cons, List.map_nil, hm, hr]
  exact h3
structure Cq where
  g : Nat
  gr : Nat
  gd : Nat
  gp : Nat
  vs : Value
  V : Option Vw
  R : Int → Option Rc
  D : Int → Option Unit
  P : Int → Option Int
  n : Int
def eyO : Option Vw → Nat → Int
  | none => fun _ => 0
  | some v => v.eye
def mO : Option Vw → Int
  | none => 0
  | some v => v.m
def psO : Option Vw → List (Nat → Int)
  | none => []
  | some v => v.ps
def cCq (p : Cq) : List Value := cVw p.vs (eyO p.V) (mO p.V) ++ [.bool p.V.isSome, .map (some p.gr), .map (some p.gd), .map (some p.gp), .int .i64 p.n]
structure LC (w : World) (p : Cq) : Prop where
  blk : Blk w p.g 70 (cCq p).toArray
  sid : OwnX 4 cPl 40 w 0 p.vs (psO p.V)
  rcs : MF rK15 w p.gr p.R
  dir : MF xK15 w p.gd p.D
  dep : MF dK15 w p.gp p.P
  d1 : p.g ≠ p.gr
  d2 : p.g ≠ p.gd
  d3 : p.g ≠ p.gp
  d4 : p.gr ≠ p.gd
  d5 : p.gr ≠ p.gp
  d6 : p.gd ≠ p.gp
  f : ∀ b, p.vs.ownBlock = some b → b ≠ p.g ∧ b ≠ p.gr ∧ b ≠ p.gd ∧ b ≠ p.gp
def footC (p : Cq) (b : Nat) : Prop := b = p.g ∨ b = p.gr ∨ b = p.gd ∨ b = p.gp ∨ p.vs.ownBlock = some b
def ChC (w w' : World) (p q : Cq) : Prop := LC w' q ∧ Fr w w' (footC p) ∧ ∀ b, footC q b → footC p b ∨ w.heap.size ≤ b
section
variable {w w' w1 w2 wb : World} {p q r : Cq}
theorem LC.inb (h : LC w p) : ∀ b, footC p b → b < w.heap.size := by
  rintro b (rfl | rfl | rfl | rfl | e)
  · exact h.blk.lt
  · exact h.rcs.lt
  · exact h.dir.lt
  · exact h.dep.lt
  · exact (h.sid.lt b e).2
theorem LC.same (h : LC w p) (he : ∀ b, footC p b → w'.heap[b]? = w.heap[b]?) : LC w' p :=
  ⟨h.blk.same (he _ (Or.inl rfl)), h.sid.same (fun b e => he b (Or.inr (Or.inr (Or.inr (Or.inr e))))), h.rcs.same (he _ (Or.inr (Or.inl rfl))), h.dir.same (he _ (Or.inr (Or.inr (Or.inl rfl)))), h.dep.same (he _ (Or.inr (Or.inr (Or.inr (Or.inl rfl))))), h.d1, h.d2, h.d3, h.d4, h.d5, h.d6, h.f⟩
theorem LC.keep (h : LC w p) (hb : Below w.heap.size w w') : LC w' p := h.same (fun b hf => hb.block b (h.inb b hf))
theorem ChC.still (h : LC w p) (hb : Below w.heap.size w w') : ChC w w' p p := ⟨h.keep hb, ⟨hb.os, hb.tape, hb.output, hb.size, fun b hl _ => hb.block b hl⟩, fun _ k => Or.inl k⟩
theorem ChC.of (h : ChC w1 w2 p q) (hb : Below w.heap.size w w1) : ChC w w2 p q :=
  ⟨h.1, Fr.after hb h.2.1, fun b hf => (h.2.2 b hf).imp_right (fun c => Nat.le_trans hb.size c)⟩
theorem ChC.behind (h : ChC w w1 p q) (hb : Below w1.heap.size w1 w2) : ChC w w2 p q := ⟨h.1.keep hb, Fr.behind h.2.1 hb, h.2.2⟩
theorem ChC.join (h : ChC w w1 p q) (k : ChC w1 w2 q r) : ChC w w2 p r := by
  obtain ⟨h1, h2, h3⟩ := h
  obtain ⟨k1, k2, k3⟩ := k
  refine ⟨k1, Fr.two h2 k2 h3, fun b hb => ?_⟩
  rcases k3 b hb with d | d
  · exact h3 b d
  · exact Or.inr (Nat.le_trans h2.2.2.2.1 d)
theorem LC.rest (h : LC w p) {o : Nat} (hg : w.grownBy w' (some o)) {b : Nat} (hb : footC p b) (hne : b ≠ o) : w'.heap[b]? = w.heap[b]? := hg.block b (h.inb b hb) (fun e => hne (by injection e))
theorem ChC.apart (h : ChC w w1 p q) {o : Nat} (hg : w1.grownBy w2 (some o)) (ho : w.heap.size ≤ o) (hne : ¬ footC q o) : ChC w w2 p q := by
  refine ⟨h.1.same (fun b hb => h.1.rest hg hb (fun e => hne (e ▸ hb))), ⟨hg.os.trans h.2.1.1, hg.tape.trans h.2.1.2.1, hg.output.trans h.2.1.2.2.1, Nat.le_trans h.2.1.2.2.2.1 hg.size, fun b hl hn => ?_⟩, h.2.2⟩
  have h1 := h.2.1.2.2.2.1
  rw [hg.block b (by omega) (fun e => by injection e with e; omega)]
  exact h.2.1.2.2.2.2 b hl hn
theorem LC.setR (h : LC w p) {R' : Int → Option Rc} (hm : MF rK15 w' p.gr R') (hg : w.grownBy w' (some p.gr)) : ChC w w' p { p with R := R' } :=
  ⟨⟨h.blk.same (h.rest hg (Or.inl rfl) h.d1), h.sid.same (fun b e => h.rest hg (Or.inr (Or.inr (Or.inr (Or.inr e)))) (h.f b e).2.1), hm, h.dir.same (h.rest hg (Or.inr (Or.inr (Or.inl rfl))) (fun e => h.d4 e.symm)), h.dep.same (h.rest hg (Or.inr (Or.inr (Or.inr (Or.inl rfl)))) (fun e => h.d5 e.symm)), h.d1, h.d2, h.d3, h.d4, h.d5, h.d6, h.f⟩, ⟨hg.os, hg.tape, hg.output, hg.size, fun b hl hn => hg.block b hl (fun e => hn (by injection e with e; exact Or.inr (Or.inl e)))⟩, fun b hb => Or.inl hb⟩
theorem LC.setD (h : LC w p) {D' : Int → Option Unit} (hm : MF xK15 w' p.gd D') (hg : w.grownBy w' (some p.gd)) : ChC w w' p { p with D := D' } :=
  ⟨⟨h.blk.same (h.rest hg (Or.inl rfl) h.d2), h.sid.same (fun b e => h.rest hg (Or.inr (Or.inr (Or.inr (Or.inr e)))) (h.f b e).2.2.1), h.rcs.same (h.rest hg (Or.inr (Or.inl rfl)) h.d4), hm, h.dep.same (h.rest hg (Or.inr (Or.inr (Or.inr (Or.inl rfl)))) (fun e => h.d6 e.symm)), h.d1, h.d2, h.d3, h.d4, h.d5, h.d6, h.f⟩, ⟨hg.os, hg.tape, hg.output, hg.size, fun b hl hn => hg.block b hl (fun e => hn (by injection e with e; exact Or.inr (Or.inr (Or.inl e))))⟩, fun b hb => Or.inl hb⟩
theorem LC.setP (h : LC w p) {P' : Int → Option Int} (hm : MF dK15 w' p.gp P') (hg : w.grownBy w' (some p.gp)) : ChC w w' p { p with P := P' } :=
  ⟨⟨h.blk.same (h.rest hg (Or.inl rfl) h.d3), h.sid.same (fun b e => h.rest hg (Or.inr (Or.inr (Or.inr (Or.inr e)))) (h.f b e).2.2.2), h.rcs.same (h.rest hg (Or.inr (Or.inl rfl)) h.d5), h.dir.same (h.rest hg (Or.inr (Or.inr (Or.inl rfl))) h.d6), hm, h.d1, h.d2, h.d3, h.d4, h.d5, h.d6, h.f⟩, ⟨hg.os, hg.tape, hg.output, hg.size, fun b hl hn => hg.block b hl (fun e => hn (by injection e with e; exact Or.inr (Or.inr (Or.inr (Or.inl e)))))⟩, fun b hb => Or.inl hb⟩
theorem LC.setN (h : LC w p) (z : Int) : ChC w (w.setCell ⟨p.g, 10, none⟩ (.int .i64 z)) p { p with n := z } :=
  ⟨⟨h.blk.set_ 10 _, h.sid.same (fun b e => set_at (h.f b e).1), h.rcs.same (set_at (fun e => h.d1 e.symm)), h.dir.same (set_at (fun e => h.d2 e.symm)), h.dep.same (set_at (fun e => h.d3 e.symm)), h.d1, h.d2, h.d3, h.d4, h.d5, h.d6, h.f⟩, ⟨rfl, rfl, rfl, by simp [World.setCell], fun b _ hn => set_at (fun e => hn (Or.inl e))⟩, fun b hb => Or.inl hb⟩
theorem cq_splice (vs v : Value) (E E' : Nat → Int) (m m' : Int) (t : List Value) : splice (cVw vs E m ++ t) 0 (cVw v E' m') = cVw v E' m' ++ t := rfl
theorem cq_set (v : Value) (E : Nat → Int) (m : Int) (b b' a1 a2 a3 a4 : Value) : (cVw v E m ++ [b, a1, a2, a3, a4]).toArray.setIfInBounds 6 b' = (cVw v E m ++ [b', a1, a2, a3, a4]).toArray := rfl
theorem LC.mid (h : LC w p) (v : Value) (E : Nat → Int) (m : Int) : Blk (w.setCells p.g 0 (cVw v E m)) p.g 70 (cVw v E m ++ [Value.bool p.V.isSome, .map (some p.gr), .map (some p.gd), .map (some p.gp), .int .i64 p.n]).toArray := by
  have h1 := blk_setCells (cVw v E m) (o := 0) h.blk (by show 0 + 6 ≤ 11; omega)
  have e : splice (cCq p) 0 (cVw v E m) = _ := cq_splice p.vs v (eyO p.V) E (mO p.V) m [Value.bool p.V.isSome, .map (some p.gr), .map (some p.gd), .map (some p.gp), .int .i64 p.n]
  rw [e] at h1
  exact h1
theorem LC.mid2 (h : LC w p) (v : Value) (E : Nat → Int) (m : Int) (b : Bool) : Blk ((w.setCells p.g 0 (cVw v E m)).setCell ⟨p.g, 6, none⟩ (.bool b)) p.g 70 (cVw v E m ++ [Value.bool b, .map (some p.gr), .map (some p.gd), .map (some p.gp), .int .i64 p.n]).toArray := by
  have h1 := (h.mid v E m).set_ 6 (.bool b)
  rw [cq_set] at h1
  exact h1
theorem LC.setV0 (h : LC w p) {W : World} {v : Value} {V' : Option Vw} (hb : Blk W p.g 70 (cCq { p with vs := v, V := V' }).toArray) (ho : OwnX 4 cPl 40 W 0 v (psO V')) (hst : ∀ b, footC p b → b ≠ p.g → W.heap[b]? = w.heap[b]?) (hv : ∀ b, v.ownBlock = some b → w.heap.size ≤ b) : LC W { p with vs := v, V := V' } :=
  ⟨hb, ho, h.rcs.same (hst _ (Or.inr (Or.inl rfl)) (fun e => h.d1 e.symm)), h.dir.same (hst _ (Or.inr (Or.inr (Or.inl rfl))) (fun e => h.d2 e.symm)), h.dep.same (hst _ (Or.inr (Or.inr (Or.inr (Or.inl rfl)))) (fun e => h.d3 e.symm)), h.d1, h.d2, h.d3, h.d4, h.d5, h.d6, fun b e => by
    have h1 := hv b e
    have i1 := h.inb _ (Or.inl rfl)
    have i2 := h.inb _ (Or.inr (Or.inl rfl))
    have i3 := h.inb _ (Or.inr (Or.inr (Or.inl rfl)))
    have i4 := h.inb _ (Or.inr (Or.inr (Or.inr (Or.inl rfl))))
    exact ⟨fun (q : b = p.g) => by omega, fun (q : b = p.gr) => by omega, fun (q : b = p.gd) => by omega, fun (q : b = p.gp) => by omega⟩⟩
theorem LC.setV (h : LC w p) (hb : Below w.heap.size w wb) {v : Value} {V' : Option Vw} (ho : OwnX 4 cPl 40 wb 0 v (psO V')) (hv : ∀ b, v.ownBlock = some b → w.heap.size ≤ b) :
    ChC w ((wb.setCells p.g 0 (cVw v (eyO V') (mO V'))).setCell ⟨p.g, 6, none⟩ (.bool V'.isSome)) p { p with vs := v, V := V' } := by
  have hg1 := grown_cells (cVw v (eyO V') (mO V')) wb p.g 0
  have hb2 := (h.keep hb).mid2 v (eyO V') (mO V') V'.isSome
  have hlw := hb.size
  have hpl := h.blk.lt
  obtain ⟨W1, hW1⟩ : ∃ W1, W1 = wb.setCells p.g 0 (cVw v (eyO V') (mO V')) := ⟨_, rfl⟩
  rw [← hW1] at hg1 hb2 ⊢
  have hs1 := hg1.size
  have hst : ∀ b, b < wb.heap.size → b ≠ p.g → (W1.setCell ⟨p.g, 6, none⟩ (.bool V'.isSome)).heap[b]? = wb.heap[b]? := fun b hl hne => (set_at hne).trans (hg1.block b hl (fun e => hne (by injection e)))
  have hsz : (W1.setCell ⟨p.g, 6, none⟩ (.bool V'.isSome)).heap.size = W1.heap.size := by simp [World.setCell]
  refine ⟨h.setV0 hb2 (ho.same (fun b e => hst b (ho.lt b e).2 (fun q => by have := hv b e; omega))) (fun b hf hne => (hst b (by have := h.inb b hf; omega) hne).trans (hb.block b (h.inb b hf))) hv, ⟨hg1.os.trans hb.os, hg1.tape.trans hb.tape, hg1.output.trans hb.output, by rw [hsz]; omega, fun b hl hn => (hst b (by omega) (fun e => hn (Or.inl e))).trans (hb.block b hl)⟩, ?_⟩
  rintro b (e | e | e | e | e)
  · exact Or.inl (Or.inl e)
  · exact Or.inl (Or.inr (Or.inl e))
  · exact Or.inl (Or.inr (Or.inr (Or.inl e)))
  · exact Or.inl (Or.inr (Or.inr (Or.inr (Or.inl e))))
  · exact Or.inr (hv b e)
theorem LC.cells (h : LC w p) : w.cell? ⟨p.g, 6, none⟩ = some (.bool p.V.isSome) ∧ w.cell? ⟨p.g, 7, none⟩ = some (.map (some p.gr)) ∧ w.cell? ⟨p.g, 8, none⟩ = some (.map (some p.gd)) ∧ w.cell? ⟨p.g, 9, none⟩ = some (.map (some p.gp)) ∧ w.cell? ⟨p.g, 10, none⟩ = some (.int .i64 p.n) ∧ p.g < w.heap.size :=
  ⟨h.blk.cell 6, h.blk.cell 7, h.blk.cell 8, h.blk.cell 9, h.blk.cell 10, h.blk.lt⟩
end
def stC (p : Cq) (R : Int → Option Rc) (D : Int → Option Unit) (P : Int → Option Int) : Cq := { p with R := R, D := D, P := P }
def vC (p : Cq) (v : Value) (V' : Option Vw) : Cq := { p with vs := v, V := V' }
def nC (p : Cq) (n : Int) : Cq := { p with n := n }
def sD15 (S : List (Int × Int)) (z : Int) : Option Int := ((S.filter (fun p => decide (p.1 = z))).head?).map Prod.snd
structure LiK (K : Ku) (q : Cq) : Prop where
  v : q.V = K.V
  r : ∀ z, q.R z = look z K.R
  d : ∀ z, q.D z = if z ∈ K.D then some () else none
  p : ∀ z, q.P z = if z ∈ K.R.map Rc.id ∧ z ∉ K.D then sD15 K.S z else none
  n : q.n = K.n
  up : (K.S.map Prod.fst).Pairwise (· < ·)
def LKB (w : World) (g : Nat) (F : Nat → Prop) (K : Ku) : Prop := ∃ p, p.g = g ∧ LC w p ∧ LiK K p ∧ ∀ b, F b ↔ footC p b
theorem kb_lkb : KB15 LKB := ⟨fun w w' g F K ⟨p, h1, h2, h3, h4⟩ he => ⟨p, h1, h2.same (fun b hb => he b ((h4 b).2 hb)), h3, h4⟩, fun w g F K ⟨p, h1, h2, h3, h4⟩ b hb => h2.inb b ((h4 b).1 hb), fun w g F K ⟨p, h1, h2, h3, h4⟩ => by
  rw [← h1]
  exact h2.blk.lt⟩
theorem ChC.toX {w w' : World} {g : Nat} {p q : Cq} {F : Nat → Prop} {K : Ku} (h : ChC w w' p q) (hq : q.g = g) (hK : LiK K q) (hF : ∀ b, F b ↔ footC p b) : ChX LKB w w' g F K :=
  ⟨footC q, ⟨q, hq, h.1, hK, fun _ => Iff.rfl⟩, h.2.1.of (fun b hb => (hF b).2 hb), fun b hb => (h.2.2 b hb).imp_left (fun c => (hF b).2 c)⟩
theorem look_isSome15 {L : List Rc} {k : Int} : (look k L).isSome = true ↔ k ∈ L.map Rc.id := by
  constructor
  · intro c
    obtain ⟨y, hy⟩ := Option.isSome_iff_exists.1 c
    obtain ⟨m1, m2⟩ := look_mem hy
    exact List.mem_map.2 ⟨y, m1, m2⟩
  · intro c
    obtain ⟨x, hx, e⟩ := List.mem_map.1 c
    obtain ⟨y, hy⟩ := look_some hx e
    rw [hy]; rfl
end Go.Proofs.Ytjcibffhlhdjeaa
namespace Go.Proofs.Ytjcibffhlhdjeaa
open Go.Shelf
def lay_keysU_ren : Go.Shelf.Ren := ⟨fun | 7 => 26 | 10 => 41 | n => n, fun | 23 => 67 | 26 => 46 | 3 => 71 | 28 => 77 | 0 => 0 | 27 => 76 | 33 => 84 | 4 => 4 | n => n, fun | n => n⟩
theorem lay_keysU : Go.Proofs.SlLaysZI.n7 Try.prog lay_keysU_ren := {
  mixed := by kernel_rfl
  f7 := ⟨Try.f26.name, by decide, Try.func26.trans (congrArg some (by kernel_rfl))⟩
  f10 := ⟨Try.f41.name, by decide, Try.func41.trans (congrArg some (by kernel_rfl))⟩
  t0 := Try.underlying0
  a0 := Try.isAgg0
  z0 := Try.sizeOf0
  v0 := Try.zeroValue0
  t4 := Try.underlying4
  a4 := Try.isAgg4
  z4 := Try.sizeOf4
  v4 := Try.zeroValue4
  t23 := Try.underlying67
  a23 := Try.isAgg67
  z23 := Try.sizeOf67
  v23 := Try.zeroValue67
  t26 := Try.underlying46
  a26 := Try.isAgg46
  z26 := Try.sizeOf46
  v26 := Try.zeroValue46
  t27 := Try.underlying76
  a27 := Try.isAgg76
  z27 := Try.sizeOf76
  v27 := Try.zeroValue76
  t28 := Try.underlying77
  a28 := Try.isAgg77
  z28 := Try.sizeOf77
  v28 := Try.zeroValue77
  t33 := Try.underlying84
  a33 := Try.isAgg84
  z33 := Try.sizeOf84
  v33 := Try.zeroValue84 }
def lay_keysV_ren : Go.Shelf.Ren := ⟨fun | 7 => 28 | 10 => 43 | n => n, fun | 23 => 68 | 26 => 46 | 3 => 36 | 28 => 77 | 0 => 0 | 27 => 76 | 33 => 84 | 4 => 4 | n => n, fun | n => n⟩
theorem lay_keysV : Go.Proofs.SlLaysZI.n7 Try.prog lay_keysV_ren := {
  mixed := by kernel_rfl
  f7 := ⟨Try.f28.name, by decide, Try.func28.trans (congrArg some (by kernel_rfl))⟩
  f10 := ⟨Try.f43.name, by decide, Try.func43.trans (congrArg some (by kernel_rfl))⟩
  t0 := Try.underlying0
  a0 := Try.isAgg0
  z0 := Try.sizeOf0
  v0 := Try.zeroValue0
  t4 := Try.underlying4
  a4 := Try.isAgg4
  z4 := Try.sizeOf4
  v4 := Try.zeroValue4
  t23 := Try.underlying68
  a23 := Try.isAgg68
  z23 := Try.sizeOf68
  v23 := Try.zeroValue68
  t26 := Try.underlying46
  a26 := Try.isAgg46
  z26 := Try.sizeOf46
  v26 := Try.zeroValue46
  t27 := Try.underlying76
  a27 := Try.isAgg76
  z27 := Try.sizeOf76
  v27 := Try.zeroValue76
  t28 := Try.underlying77
  a28 := Try.isAgg77
  z28 := Try.sizeOf77
  v28 := Try.zeroValue77
  t33 := Try.underlying84
  a33 := Try.isAgg84
  z33 := Try.sizeOf84
  v33 := Try.zeroValue84 }
def lay_sortedC_ren : Go.Shelf.Ren := ⟨fun | 6 => 25 | 8 => 39 | 9 => 40 | 11 => 51 | 13 => 53 | 12 => 52 | 23 => 67 | 24 => 68 | 14 => 58 | 15 => 59 | 16 => 60 | 17 => 61 | 18 => 62 | 19 => 63 | 20 => 64 | 21 => 65 | 22 => 66 | 25 => 74 | 26 => 75 | 27 => 76 | 28 => 77 | 29 => 78 | 30 => 79 | 31 => 87 | n => n, fun | 26 => 46 | 28 => 77 | 24 => 30 | 0 => 0 | 3 => 3 | 37 => 102 | 48 => 119 | 50 => 121 | 4 => 4 | 40 => 111 | 39 => 110 | 45 => 116 | 5 => 5 | 9 => 9 | 51 => 126 | 55 => 130 | 57 => 141 | 58 => 142 | 33 => 84 | n => n, fun | n => n⟩
theorem lay_sortedC : Go.Proofs.SlLaysZI.n6 Try.prog lay_sortedC_ren := {
  mixed := by kernel_rfl
  f6 := ⟨Try.f25.name, by decide, Try.func25.trans (congrArg some (by kernel_rfl))⟩
  f8 := ⟨Try.f39.name, by decide, Try.func39.trans (congrArg some (by kernel_rfl))⟩
  f11 := ⟨Try.f51.name, by decide, Try.func51.trans (congrArg some (by kernel_rfl))⟩
  t0 := Try.underlying0
  a0 := Try.isAgg0
  z0 := Try.sizeOf0
  v0 := Try.zeroValue0
  t24 := Try.underlying30
  a24 := Try.isAgg30
  z24 := Try.sizeOf30
  v24 := Try.zeroValue30
  t26 := Try.underlying46
  a26 := Try.isAgg46
  z26 := Try.sizeOf46
  v26 := Try.zeroValue46
  t28 := Try.underlying77
  a28 := Try.isAgg77
  z28 := Try.sizeOf77
  v28 := Try.zeroValue77
  i26 := by kernel_rfl }
end Go.Proofs.Ytjcibffhlhdjeaa
namespace Go.Proofs.Ytjcibffhlhdjeaa
open Go.RowKit

theorem up_nod15 {l : List Int} (h : l.Pairwise (· < ·)) : l.Nodup := h.imp (fun {a b} c => by omega)
theorem sortsC (m : Nat) : AnyZI.SortsIn Try.prog lay_sortedC_ren Fence.wide m :=
  ⟨fun blk off cap ss W hH hblk hsz => callsIn_wide.2 (AnyM.slices_Sort_int lay_sortB blk off cap ss W hH hblk hsz),
   fun p cap W => callsIn_wide.2 (AnyM.slices_Sort_int_none lay_sortB p cap W)⟩
theorem keysU15 (mb : Option Nat) (w : World) : Calls Try.prog 26 #[.map mb] w fun e w' => e = .returned (.func (.func 41) #[] #[.pointer (some ⟨w.heap.size, 0, none⟩)]) ∧ w' = w.alloc (.cells #[.map mb] 67) :=
  (callsIn_wide (n := 5)).1 (AnyZI.keys_in lay_keysU Fence.wide 5 trivial rfl mb w)
set_option maxHeartbeats 1000000 in
theorem sortedU15 {α : Type} {k : MK α} {w : World} {mb : Nat} {m : Int → Option α} (h : MF k w mb m) (K : List Int) (hK : K.Pairwise (· < ·)) (hm : ∀ z, z ∈ K ↔ Rg z ∧ (m z).isSome = true) : Calls Try.prog 25 #[.func (.func 41) #[] #[.pointer (some ⟨w.heap.size, 0, none⟩)]] (w.alloc (.cells #[.map (some mb)] 67)) fun e w' => ∃ v, e = .returned v ∧ OwnD w' w.heap.size v K.length K ∧ Below w.heap.size w w' := by
  obtain ⟨D, hown, hk, hr⟩ := h
  have hbl := hown.lt
  have hsz := hown.size_le
  have hpk : K.Perm (intKeys D) := CollectedI.perm (left := fun _ => false) ⟨up_nod15 hK, fun x => by
    rw [hm]
    exact ⟨fun q => ⟨by rw [(hk x q.1).2]; exact q.2, rfl⟩, fun q => ⟨hr x q.1, by rw [← (hk x (hr x q.1)).2]; exact q.1⟩⟩⟩ hown id_law Try.underlying46 (fun _ => rfl)
  have hseq : SeqGives Fence.wide 2 Try.prog 41 #[.pointer (some ⟨w.heap.size, 0, none⟩)] encZ (fun ss => ss.Perm (intKeys D)) (Maps.size D) (w.alloc (.cells #[.map (some mb)] 67)) :=
    AnyZI.keys_gives (ρ := lay_keysU_ren) { lay_keysU with } Fence.wide _ trivial rfl (by omega) w.heap.size mb 100000 D _ (by simp) (by simp) (by
      obtain ⟨es, clock, hb, Ft, hs, hD⟩ := hown
      exact ⟨es, clock, (Below.heap_alloc _ _ mb hbl).trans hb, Ft, hs, hD⟩)
  have cS := AnyZI.sorted_in lay_sortedC Fence.wide 5 trivial trivial trivial trivial rfl (by omega) (sortsC _) (Go.Proofs.enters_of Try.func40 (by kernel_rfl) rfl) 41 #[.pointer (some ⟨w.heap.size, 0, none⟩)] trivial (Go.Proofs.enters_of Try.func41 (by kernel_rfl) rfl) _ (Maps.size D) (by unfold maxLen; omega) (by omega) _ hseq
  refine ((callsIn_wide (n := 5)).1 cS).mono ?_
  rintro e w' ⟨v, ss, rfl, hS, hrow, _, hb⟩
  have hp : ss.Perm K := hS.trans hpk.symm
  have e1 := srt_up hp hK
  have e2 := hp.length_eq
  rw [e1, e2] at hrow
  exact ⟨v, rfl, ownsRow_base_a hrow (by simp), ((Below.refl _ w).alloc (Nat.le_refl _) _).trans (hb.mono (by simp))⟩
theorem keysV15 (mb : Option Nat) (w : World) : Calls Try.prog 28 #[.map mb] w fun e w' => e = .returned (.func (.func 43) #[] #[.pointer (some ⟨w.heap.size, 0, none⟩)]) ∧ w' = w.alloc (.cells #[.map mb] 68) :=
  (callsIn_wide (n := 5)).1 (AnyZI.keys_in lay_keysV Fence.wide 5 trivial rfl mb w)
set_option maxHeartbeats 1000000 in
theorem sortedV15 {α : Type} {k : MK α} {w : World} {mb : Nat} {m : Int → Option α} (h : MF k w mb m) (K : List Int) (hK : K.Pairwise (· < ·)) (hm : ∀ z, z ∈ K ↔ Rg z ∧ (m z).isSome = true) : Calls Try.prog 25 #[.func (.func 43) #[] #[.pointer (some ⟨w.heap.size, 0, none⟩)]] (w.alloc (.cells #[.map (some mb)] 68)) fun e w' => ∃ v, e = .returned v ∧ OwnD w' w.heap.size v K.length K ∧ Below w.heap.size w w' := by
  obtain ⟨D, hown, hk, hr⟩ := h
  have hbl := hown.lt
  have hsz := hown.size_le
  have hpk : K.Perm (intKeys D) := CollectedI.perm (left := fun _ => false) ⟨up_nod15 hK, fun x => by
    rw [hm]
    exact ⟨fun q => ⟨by rw [(hk x q.1).2]; exact q.2, rfl⟩, fun q => ⟨hr x q.1, by rw [← (hk x (hr x q.1)).2]; exact q.1⟩⟩⟩ hown id_law Try.underlying46 (fun _ => rfl)
  have hseq : SeqGives Fence.wide 2 Try.prog 43 #[.pointer (some ⟨w.heap.size, 0, none⟩)] encZ (fun ss => ss.Perm (intKeys D)) (Maps.size D) (w.alloc (.cells #[.map (some mb)] 68)) :=
    AnyZI.keys_gives (ρ := lay_keysV_ren) { lay_keysV with } Fence.wide _ trivial rfl (by omega) w.heap.size mb 100000 D _ (by simp) (by simp) (by
      obtain ⟨es, clock, hb, Ft, hs, hD⟩ := hown
      exact ⟨es, clock, (Below.heap_alloc _ _ mb hbl).trans hb, Ft, hs, hD⟩)
  have cS := AnyZI.sorted_in lay_sortedC Fence.wide 5 trivial trivial trivial trivial rfl (by omega) (sortsC _) (Go.Proofs.enters_of Try.func40 (by kernel_rfl) rfl) 43 #[.pointer (some ⟨w.heap.size, 0, none⟩)] trivial (Go.Proofs.enters_of Try.func43 (by kernel_rfl) rfl) _ (Maps.size D) (by unfold maxLen; omega) (by omega) _ hseq
  refine ((callsIn_wide (n := 5)).1 cS).mono ?_
  rintro e w' ⟨v, ss, rfl, hS, hrow, _, hb⟩
  have hp : ss.Perm K := hS.trans hpk.symm
  have e1 := srt_up hp hK
  have e2 := hp.length_eq
  rw [e1, e2] at hrow
  exact ⟨v, rfl, ownsRow_base_a hrow (by simp), ((Below.refl _ w).alloc (Nat.le_refl _) _).trans (hb.mono (by simp))⟩
theorem lik_zero (p : Cq) (h1 : p.V = none) (h2 : ∀ z, p.R z = none) (h3 : ∀ z, p.D z = none) (h4 : ∀ z, p.P z = none) (h5 : p.n = 0) : LiK Ku0 p :=
  ⟨h1, fun z => (h2 z).trans rfl, fun z => by rw [h3 z]; simp [Ku0], fun z => by rw [h4 z]; simp [Ku0], h5, List.Pairwise.nil⟩
set_option maxHeartbeats 4000000 in
set_option maxRecDepth 100000 in
theorem cnew15_any (w : World) : Calls Try.prog 6 #[] w fun e w' => ∃ g F, e = .returned (.pointer (some ⟨g, 0, none⟩)) ∧ LKB w' g F Ku0 ∧ (∀ b, F b → w.heap.size ≤ b) ∧ Below w.heap.size w w' := by
  have hmm := @run_makeMap Try.prog
  have HE : Hid (∃ F, LKB ((((w.alloc (.map #[] 0)).alloc (.map #[] 0)).alloc (.map #[] 0)).alloc (.cells #[.slice none 0 0, .int .i64 0, .int .i64 0, .int .i64 0, .int .i64 0, .int .i64 0, .bool false, .map (some w.heap.size), .map (some (w.heap.size + 1)), .map (some (w.heap.size + 2)), .int .i64 0] 70)) (w.heap.size + 3) F Ku0 ∧ (∀ b, F b → w.heap.size ≤ b) ∧ Below w.heap.size w ((((w.alloc (.map #[] 0)).alloc (.map #[] 0)).alloc (.map #[] 0)).alloc (.cells #[.slice none 0 0, .int .i64 0, .int .i64 0, .int .i64 0, .int .i64 0, .int .i64 0, .bool false, .map (some w.heap.size), .map (some (w.heap.size + 1)), .map (some (w.heap.size + 2)), .int .i64 0] 70))) := Lib.hid (by
    have s1 : (w.alloc (.map #[] 0)).heap.size = w.heap.size + 1 := by simp
    have s2 : ((w.alloc (.map #[] 0)).alloc (.map #[] 0)).heap.size = w.heap.size + 2 := by simp
    have s3 : (((w.alloc (.map #[] 0)).alloc (.map #[] 0)).alloc (.map #[] 0)).heap.size = w.heap.size + 3 := by simp
    have b1 : Below w.heap.size w (w.alloc (.map #[] 0)) := alloc_below _ _
    have b2 : Below (w.alloc (.map #[] 0)).heap.size (w.alloc (.map #[] 0)) ((w.alloc (.map #[] 0)).alloc (.map #[] 0)) := alloc_below _ _
    have b3 : Below ((w.alloc (.map #[] 0)).alloc (.map #[] 0)).heap.size ((w.alloc (.map #[] 0)).alloc (.map #[] 0)) (((w.alloc (.map #[] 0)).alloc (.map #[] 0)).alloc (.map #[] 0)) := alloc_below _ _
    obtain ⟨W3, hW3⟩ : ∃ W3, W3 = ((w.alloc (.map #[] 0)).alloc (.map #[] 0)).alloc (.map #[] 0) := ⟨_, rfl⟩
    have m1 := ((MF.new rK15 w).keep b2).keep b3
    have m2 := (MF.new xK15 (w.alloc (.map #[] 0))).keep b3
    have m3 := MF.new dK15 ((w.alloc (.map #[] 0)).alloc (.map #[] 0))
    rw [s1] at m2
    rw [s2] at m3
    have hb3 := bthen (bthen b1 b2) b3
    rw [← hW3] at m1 m2 m3 hb3 s3 ⊢
    have b4 : Below W3.heap.size W3 (W3.alloc (.cells #[.slice none 0 0, .int .i64 0, .int .i64 0, .int .i64 0, .int .i64 0, .int .i64 0, .bool false, .map (some w.heap.size), .map (some (w.heap.size + 1)), .map (some (w.heap.size + 2)), .int .i64 0] 70)) := alloc_below _ _
    have k := Blk.new W3 70 #[.slice none 0 0, .int .i64 0, .int .i64 0, .int .i64 0, .int .i64 0, .int .i64 0, .bool false, .map (some w.heap.size), .map (some (w.heap.size + 1)), .map (some (w.heap.size + 2)), .int .i64 0]
    rw [s3] at k
    refine ⟨footC ⟨w.heap.size + 3, w.heap.size, w.heap.size + 1, w.heap.size + 2, .slice none 0 0, none, fun _ => none, fun _ => none, fun _ => none, 0⟩, ⟨⟨w.heap.size + 3, w.heap.size, w.heap.size + 1, w.heap.size + 2, .slice none 0 0, none, fun _ => none, fun _ => none, fun _ => none, 0⟩, rfl, ⟨k, OwnX.nil _ _ _ _ _, m1.keep b4, m2.keep b4, m3.keep b4, by show w.heap.size + 3 ≠ w.heap.size; omega, by show w.heap.size + 3 ≠ w.heap.size + 1; omega, by show w.heap.size + 3 ≠ w.heap.size + 2; omega, by show w.heap.size ≠ w.heap.size + 1; omega, by show w.heap.size ≠ w.heap.size + 2; omega, by show w.heap.size + 1 ≠ w.heap.size + 2; omega, fun b e => by cases e⟩, lik_zero _ rfl (fun _ => rfl) (fun _ => rfl) (fun _ => rfl) rfl, fun _ => Iff.rfl⟩, ?_, bthen hb3 b4⟩
    rintro b (e | e | e | e | e)
    · have : b = w.heap.size + 3 := e
      omega
    · have : b = w.heap.size := e
      omega
    · have : b = w.heap.size + 1 := e
      omega
    · have : b = w.heap.size + 2 := e
      omega
    · cases e)
  go_enter Try.func6, Try.ntmps6
  go_wp2
  go_ret
  obtain ⟨F, h1, h2, h3⟩ := HE.out
  exact ⟨_, F, rfl, h1, h2, h3⟩
section
variable {w : World} {p : Cq}
set_option maxHeartbeats 400000 in
set_option maxRecDepth 100000 in
theorem csteps_any (h : LC w p) : Calls Try.prog 15 #[.pointer (some ⟨p.g, 0, none⟩)] w fun e w' => e = .returned (.int .i64 p.n) ∧ w' = w := by
  obtain ⟨-, -, -, -, c10, hg⟩ := h.cells
  obtain ⟨g, hge⟩ : ∃ g, g = p.g := ⟨_, rfl⟩
  obtain ⟨n, hne⟩ : ∃ n, n = p.n := ⟨_, rfl⟩
  rw [← hge, ← hne] at c10 ⊢
  rw [← hge] at hg
  clear hge hne h
  go_enter Try.func15, Try.ntmps15
  go_wp2
  go_ret
  exact ⟨rfl, rfl⟩
def SI15 (R : Int → Option Rc) (left : Lit → Bool) (D : Int → Option Unit) : Prop := (∀ z, (D z).isSome = true → (R z).isSome = true) ∧ ∀ z, Rg z → (R z).isSome = true → left (.int .i64 z) = false → (D z).isSome = true
def soilD (R : Int → Option Rc) (z : Int) : Option Unit := if (R z).isSome = true then some () else none
theorem LC.eqD {D D' : Int → Option Unit} (h : LC w (stC p p.R D p.P)) (he : ∀ x, Rg x → D' x = D x) : LC w (stC p p.R D' p.P) :=
  ⟨h.blk, h.sid, h.rcs, h.dir.eq he, h.dep, h.d1, h.d2, h.d3, h.d4, h.d5, h.d6, h.f⟩
set_option maxHeartbeats 4000000 in
set_option maxRecDepth 100000 in
theorem csoil_any (h : LC w p) (K : List Int) (hK : ∀ z, (p.R z).isSome = true → z ∈ K) (hKl : K.length ≤ 1000) (hDr : ∀ z, (p.D z).isSome = true → (p.R z).isSome = true) :
    Calls Try.prog 24 #[.pointer (some ⟨p.g, 0, none⟩)] w fun e w' => e = .returned (.tuple #[]) ∧ ChC w w' p (stC p p.R (soilD p.R) (fun _ => none)) := by
  obtain ⟨W1, left, cnt, hrg, hmr, hl1, hl2, hgr, hsz⟩ := h.rcs.range15
  have hb1 : Below w.heap.size w W1 := ⟨hgr.os, hgr.tape, hgr.output, hgr.size, fun k hk => hgr.block k hk (by simp)⟩
  have HMR := Lib.hid hmr
  have HL := Lib.hid hl1
  have HC0 : Hid (ChC w W1 p (stC p p.R p.D p.P)) := Lib.hid (ChC.still h hb1)
  have HI0 : Hid (SI15 p.R left p.D) := Lib.hid ⟨hDr, fun z hz hs hl => by
    rw [hl2 z hz, hs] at hl
    cases hl⟩
  have HCl : Hid (∀ W D, ChC w W p (stC p p.R D p.P) → W.cell? ⟨p.g, 8, none⟩ = some (.map (some p.gd)) ∧ W.cell? ⟨p.g, 9, none⟩ = some (.map (some p.gp)) ∧ p.g < W.heap.size) := Lib.hid (fun W D k => ⟨k.1.cells.2.2.1, k.1.cells.2.2.2.1, k.1.cells.2.2.2.2.2⟩)
  have HAp : Hid (∀ W W' D, ChC w W p (stC p p.R D p.P) → W.grownBy W' (some w.heap.size) → ChC w W' p (stC p p.R D p.P)) := Lib.hid (fun W W' D k hg => k.apart hg (Nat.le_refl _) (fun c => by
    have := h.inb _ c
    omega))
  have HPt : Hid (∀ W D x, ChC w W p (stC p p.R D p.P) → Rg x → (p.R x).isSome = true → (∀ z, (D z).isSome = true → (p.R z).isSome = true) → ∃ w2, (Instr.mapUpdate 67 (.map (some p.gd)) (.int .i64 x) (.agg #[])).run Try.prog W = .ok () w2 ∧ ChC w w2 p (stC p p.R (upm D x (some ())) p.P) ∧ W.grownBy w2 (some p.gd)) := Lib.hid (fun W D x k hx hs hd => by
    obtain ⟨w2, h1, h2, h3⟩ := k.1.dir.put hx () K (fun y hy => by
      unfold upm at hy
      by_cases c : y = x
      · rw [c]; exact hK x hs
      · rw [if_neg c] at hy
        exact hK y (hd y hy)) (by omega)
    exact ⟨w2, h1, k.join (k.1.setD h2 h3), h3⟩)
  have HEn : Hid (∀ W left D, ChC w W p (stC p p.R D p.P) → SI15 p.R left D → (∀ x, left (.int .i64 x) = false) → ∃ w2, (∀ ty, (Builtin.clear_ #[68] ty #[.map (some p.gp)]).run Try.prog W = .ok (.tuple #[]) w2) ∧ ChC w w2 p (stC p p.R (soilD p.R) (fun _ => none))) := Lib.hid (fun W left D k hs h0 => by
    have hq : ChC w W p (stC p p.R (soilD p.R) p.P) := ⟨k.1.eqD (D' := soilD p.R) (fun x hx => by
      unfold soilD
      by_cases c : (p.R x).isSome = true
      · rw [if_pos c]
        obtain ⟨u, hu⟩ := Option.isSome_iff_exists.1 (hs.2 x hx c (h0 x))
        rw [hu]
      · rw [if_neg c]
        cases e : D x with
        | none => rfl
        | some u => exact absurd (hs.1 x (by rw [e]; rfl)) c), k.2.1, k.2.2⟩
    obtain ⟨w2, h1, h2, h3⟩ := hq.1.dep.clr15
    exact ⟨w2, h1, hq.join (hq.1.setP h2 h3)⟩)
  obtain ⟨-, c7, c8, c9, -, hg⟩ := h.cells
  have hrn : w.heap.size ≠ p.gd := by have := h.dir.lt; omega
  have hgrd := h.d4
  have hrg' : (Instr.range 66 (.map (some p.gr))).run Try.prog w = .ok (.pointer (some ⟨w.heap.size, 0, none⟩)) W1 := hrg
  obtain ⟨rb, hrb⟩ : ∃ rb, rb = w.heap.size := ⟨_, rfl⟩
  rw [← hrb] at hrg' HMR HAp hrn
  obtain ⟨g, hge⟩ : ∃ g, g = p.g := ⟨_, rfl⟩
  obtain ⟨gr, hgre⟩ : ∃ g, g = p.gr := ⟨_, rfl⟩
  obtain ⟨gd, hgde⟩ : ∃ g, g = p.gd := ⟨_, rfl⟩
  obtain ⟨gp, hgpe⟩ : ∃ g, g = p.gp := ⟨_, rfl⟩
  rw [← hge, ← hgde, ← hgpe] at HCl
  rw [← hgde] at HPt hrn
  rw [← hgpe] at HEn
  rw [← hgre, ← hgde] at hgrd
  rw [← hge, ← hgre] at c7
  rw [← hge] at hg ⊢
  rw [← hgre] at hrg' HMR
  clear hrg hmr hl1 hl2 hgr hsz hb1 hDr h hK hKl c8 c9 hge hgre hgde hgpe hrb
  go_enter Try.func24, Try.ntmps24
  go_wp2
  go_loopw [2] (fun _ wq => ∃ (left : Lit → Bool) (cnt : Nat) (D : Int → Option Unit), MRg15 rK15 wq gr rb p.R left cnt ∧ (∀ x, left (.int .i64 x) = true → (p.R x).isSome = true ∧ Rg x) ∧ ChC w wq p (stC p p.R D p.P) ∧ SI15 p.R left D) (fun _ wq => wq.rangeLeft gr rb)
  case atStart => exact ⟨left, cnt, p.D, HMR.out, HL.out, HC0.out, HI0.out⟩
  case round =>
    clear HMR HL HC0 HI0 hrg' c7 hg left cnt
    obtain ⟨left, cnt, D, hmr, hl1, hch, hsi⟩ := hrel
    obtain ⟨c8, c9, hg⟩ := HCl.out _ _ hch
    have hrl := hmr.lt
    rcases hmr.next hl1 with ⟨h0, hnx⟩ | ⟨x, v, w', cnt', hs, hlx, hnx, hmr', hlt', hgr', hsz', hen⟩
    · obtain ⟨w2, r2, hc2⟩ := HEn.out _ _ _ hch hsi h0
      have HE := Lib.hid hc2
      clear hmr hl1 hch hsi h0 hc2 HEn HPt HAp HCl
      go_wp2_with (at_builtin; refine wpList_clr15 rfl (.tmp 21) 68 rfl _ rfl (r2 _) ?_)
      go_end0
      exact ⟨rfl, HE.out⟩
    · have hxr : Rg x := (hl1 x hlx).2
      have hch' := HAp.out _ _ _ hch hgr'
      obtain ⟨w2, hrun, hch2, hg2⟩ := HPt.out _ _ x hch' hxr hs hsi.1
      obtain ⟨c8', -, hg'⟩ := HCl.out _ _ hch'
      have hmr2 := hmr'.kept hg2 (by intro e; injection e with e; exact hgrd e) (by intro e; injection e with e; exact hrn e)
      have HRel : Hid (MRg15 rK15 w2 gr rb p.R (fun z => left z && !z.sameKey (.int .i64 x)) cnt' ∧ (∀ y, (left (.int .i64 y) && !(Lit.int .i64 y).sameKey (.int .i64 x)) = true → (p.R y).isSome = true ∧ Rg y) ∧ ChC w w2 p (stC p p.R (upm D x (some ())) p.P) ∧ SI15 p.R (fun z => left z && !z.sameKey (.int .i64 x)) (upm D x (some ()))) := Lib.hid ⟨hmr2, fun y hy => hl1 y (by rw [Bool.and_eq_true] at hy; exact hy.1), hch2, fun z hz => by
          unfold upm at hz
          by_cases c : z = x
          · rw [c]; exact hs
          · rw [if_neg c] at hz
            exact hsi.1 z hz, fun z hz hsz hl => by
          unfold upm
          by_cases c : z = x
          · rw [if_pos c]; rfl
          · rw [if_neg c]
            refine hsi.2 z hz hsz ?_
            have hl' : (left (.int .i64 z) && !(Lit.int .i64 z).sameKey (.int .i64 x)) = false := hl
            rw [same_key15, decide_eq_false c] at hl'
            simpa using hl'⟩
      have HMs : Hid (w2.rangeLeft gr rb < wr.rangeLeft gr rb) := Lib.hid (by rw [hmr2.left_eq, hmr.left_eq]; exact hlt')
      clear hmr hl1 hch hsi hmr' hgr' hxr hch' hch2 hg2 hmr2 hs hlx hlt' HEn HPt HAp HCl
      go_wp2
      go_roundw
      case rel => exact ⟨_, cnt', _, HRel.out⟩
      case measure => exact HMs.out
theorem soil_lik {K : Ku} (V : Option Vw) (S : List (Int × Int)) (n : Int) {p : Cq} (hV : p.V = V) (hR : ∀ z, p.R z = look z K.R) (hn : p.n = n) (hS : (S.map Prod.fst).Pairwise (· < ·)) : LiK ⟨V, K.R, K.R.map Rc.id, S, n⟩ (stC p p.R (soilD p.R) (fun _ => none)) :=
  ⟨hV, hR, fun z => by
    show soilD p.R z = if z ∈ K.R.map Rc.id then some () else none
    unfold soilD
    rw [hR z]
    by_cases c : z ∈ K.R.map Rc.id
    · rw [if_pos c, if_pos (look_isSome15.2 c)]
    · rw [if_neg c, if_neg (fun q => c (look_isSome15.1 q))], fun z => by
    show none = if z ∈ K.R.map Rc.id ∧ z ∉ K.R.map Rc.id then sD15 S z else none
    rw [if_neg (fun q => q.2 q.1)], hn, hS⟩
theorem LiK.dr {K : Ku} (hk : KOk K) (hK : LiK K p) {z : Int} (h : (p.D z).isSome = true) : (p.R z).isSome = true := by
  rw [hK.d] at h
  rw [hK.r]
  by_cases c : z ∈ K.D
  · exact look_isSome15.2 (hk.dr z c)
  · rw [if_neg c] at h; cases h
theorem LiK.names {K : Ku} (hK : LiK K p) {z : Int} (h : (p.R z).isSome = true) : z ∈ K.R.map Rc.id := by
  rw [hK.r] at h
  exact look_isSome15.1 h
theorem vw_one (a : Option Addr) (n cap : Nat) (E : Nat → Int) (m : Int) : (cVw (.slice a n cap) E m).toArray.all (·.oneCell') = true := by kernel_rfl
theorem vw_zero (W : World) : (Instr.build 42 #[]).run Try.prog W = .ok (.agg (cVw (.slice none 0 0) (fun _ => 0) 0).toArray) W := by kernel_rfl
theorem LC.midC (h : LC w p) (v : Value) (E : Nat → Int) (m : Int) : (w.setCells p.g 0 (cVw v E m)).cell? ⟨p.g, 6, none⟩ = some (.bool p.V.isSome) ∧ (w.setCells p.g 0 (cVw v E m)).frozen? ⟨p.g, 6, none⟩ = false ∧ p.g < (w.setCells p.g 0 (cVw v E m)).heap.size := by
  have hb := h.mid v E m
  exact ⟨hb.cell 6, hb.frozen 6, hb.lt⟩
theorem LC.there (h : LC w p) : w.there p.g 0 6 := blk_there h.blk (by show 0 + 6 ≤ 11; omega)
theorem LC.range (h : LC w p) : w.rangeAt p.g 0 (cVw p.vs (eyO p.V) (mO p.V)) := blk_range h.blk 0 6
set_option maxHeartbeats 4000000 in
set_option maxRecDepth 100000 in
theorem cclose15_any {K : Ku} (hk : KOk K) (hKl : K.R.length ≤ 200) (hK : LiK K p) (h : LC w p) :
    Calls Try.prog 17 #[.pointer (some ⟨p.g, 0, none⟩)] w fun e w' => e = .returned (.tuple #[]) ∧ ∃ q, q.g = p.g ∧ ChC w w' p q ∧ LiK (closeS K) q := by
  obtain ⟨c6, -, -, -, -, hg⟩ := h.cells
  have HSt : Hid (ChC w w p p) := Lib.hid (ChC.still h (Below.refl _ _))
  have hsv := h.setV (Below.refl _ _) (v := .slice none 0 0) (V' := none) (OwnX.nil _ _ _ _ _) (fun b e => by cases e)
  have HSv : Hid (ChC w ((w.setCells p.g 0 (cVw (.slice none 0 0) (fun _ => 0) 0)).setCell ⟨p.g, 6, none⟩ (.bool false)) p (vC p (.slice none 0 0) none)) := Lib.hid hsv
  have HT : Hid (w.there p.g 0 (cVw (.slice none 0 0) (fun _ => 0) 0).toArray.size) := Lib.hid h.there
  have HI : Hid ((Try.prog.info? 42).map (·.size) = some (cVw (.slice none 0 0) (fun _ => 0) 0).toArray.size) := Lib.hid (vw_size (.slice none 0 0) (fun _ => 0) 0)
  have HO := Lib.hid (vw_one none 0 0 (fun _ => 0) 0)
  have HBz := Lib.hid vw_zero
  obtain ⟨c6', f6', hg'⟩ := h.midC (.slice none 0 0) (fun _ => 0) 0
  have HSo : Hid (∀ W, ChC w W p (vC p (.slice none 0 0) none) → K.V.isSome = true → Calls Try.prog 24 #[.pointer (some ⟨p.g, 0, none⟩)] W fun e w' => e = .returned (.tuple #[]) ∧ ∃ q, q.g = p.g ∧ ChC w w' p q ∧ LiK (closeS K) q) := Lib.hid (fun W k hv => by
    refine (csoil_any k.1 (K.R.map Rc.id) (fun z hz => hK.names hz) (by rw [List.length_map]; omega) (fun z hz => hK.dr hk hz)).mono ?_
    rintro e w' ⟨rfl, hc⟩
    refine ⟨rfl, stC (vC p (.slice none 0 0) none) p.R (soilD p.R) (fun _ => none), rfl, k.join hc, ?_⟩
    have hq := soil_lik none K.S K.n (p := vC p (.slice none 0 0) none) rfl hK.r hK.n hK.up
    unfold closeS
    rw [if_pos hv]
    exact hq)
  have HNo : Hid (K.V.isSome = false → LiK (closeS K) p) := Lib.hid (fun hv => by
    have e : K.V = none := by
      cases q : K.V with
      | none => rfl
      | some v => rw [q] at hv; cases hv
    unfold closeS
    rw [if_neg (by rw [hv]; simp)]
    exact ⟨hK.v.trans e, hK.r, hK.d, hK.p, hK.n, hK.up⟩)
  rw [hK.v] at c6 c6'
  obtain ⟨XZ, hXZ⟩ : ∃ XZ, XZ = cVw (.slice none 0 0) (fun _ => 0) 0 := ⟨_, rfl⟩
  rw [← hXZ] at HSv HT HI HO HBz c6' f6' hg'
  obtain ⟨vb, hvb⟩ : ∃ vb, vb = K.V.isSome := ⟨_, rfl⟩
  rw [← hvb] at c6 c6' HSo HNo
  obtain ⟨g, hge⟩ : ∃ g, g = p.g := ⟨_, rfl⟩
  rw [← hge] at HSv HT HSo c6 c6' f6' hg hg' ⊢
  have HG := Lib.hid hge
  clear hsv hvb h hK hk hKl hge hXZ
  go_enter Try.func17, Try.ntmps17
  cases vb with
  | false =>
    have HE := Lib.hid (HNo.out rfl)
    go_wp2
    exact bodyPost_ret (v := .tuple #[]) (results_none rfl _ _ _) rfl ⟨rfl, p, HG.out.symm, HSt.out, HE.out⟩
  | true =>
    go_upto_region 2 with (first
      | refine wpList_bldz rfl 42 rfl (.agg XZ.toArray) HBz.out ?_
      | refine wpList_store_mid rfl 42 (.tmp 15) (.tmp 13) rfl g 0 XZ.toArray rfl rfl HT.out HI.out HO.out ?_)
    refine fin (fun W => ChC w W p (vC p (.slice none 0 0) none)) HSv.out ?_
    clear HSv HT HI HO HBz c6 hg HSt c6' f6' hg'
    rintro W hc
    have HSo2 := Lib.hid (HSo.out W hc (by first | rfl | trivial))
    clear hc
    go_wp2_with fail
    refine HSo2.out.mono ?_
    rintro e w5 ⟨rfl, hq⟩
    have HQ := Lib.hid hq
    clear hq HSo HSo2
    go_wp2
    go_end0
    exact ⟨rfl, HQ.out⟩
end
end Go.Proofs.Ytjcibffhlhdjeaa
