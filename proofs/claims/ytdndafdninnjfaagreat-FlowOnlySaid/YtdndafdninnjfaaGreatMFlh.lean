/-
  3 texts in one file, each with its own heading.
-/
import Derived.Test.YtdndafdninnjfaaGreatMFle
/-
  What the reference's Put of layer 10 answers, and makes of the flow.
-/
namespace Go.Proofs.YtdndafdninnjfaaGreat
open Go.RowKit

/-- 'append([]T{}, l...)' of rows -/
theorem wpList_copyX {α : Type} {k : Nat} {c : α → List Value} {e : TypeId} {ops : Array Oper} {rest : List Oper} {op : Oper} {a : Go.Act} {w : World} {Q : Exit → Go.Act → World → Prop} (hgd : op.guard = none) (ts tb : Operand) (t : TypeId) (by_ : Nat) (z : Value)
    (ho : op.op = .call { callee := .builtin .append, args := #[ts, tb], argTypes := #[t, t] }) (hu : Tryz.prog.underlying t = some (.slice e))
    (hinfo : (Tryz.prog.info? e).map (fun i => (i.zero, i.size, i.bytes)) = some (some z, k, by_)) (hzs : z.cells.size = k) (hk : 0 < k) (hby : by_ ≤ 1000) (hc : ∀ x, (c x).length = k) (hone : ∀ x, ∀ u ∈ c x, u.oneCell' = true)
    (base h0 : Nat) (hb : base ≤ h0) (hbw : base ≤ w.heap.size) (hs : a.eval ts = .slice (some ⟨h0, 0, none⟩) 0 0) (hb0 : Blk w h0 e #[]) (v : Value) (X : List α) (hx : a.eval tb = v) (hcol : OwnX k c e w 0 v X) (hX : X.length ≤ 2000)
    (h : ∀ v' w', OwnX k c e w' base v' X → w.grownBy w' (some h0) → wpList Tryz.prog ops Q rest (a.put op.dst v') w') : wpList Tryz.prog ops Q (op :: rest) a w := by
  obtain ⟨i0, hi0, hz0, hz1, hz2⟩ := info_parts hinfo
  have hown : w.ownsRow base e k (.slice (some ⟨h0, 0, none⟩) 0 0) 0 [] := ⟨by simp, Or.inr ⟨h0, 0, #[], rfl, hb, hb0, Nat.le_refl _, Nat.zero_le _, by simp, by simp⟩⟩
  rcases hcol.2 with ⟨rfl, hn⟩ | ⟨g, cap, cur, rfl, hbg, hg, hnc, hm, hsz, htk⟩
  · have hXn : X = [] := List.eq_nil_of_length_eq_zero hn
    subst hXn
    have h2 := h (.slice (some ⟨h0, 0, none⟩) 0 0) w hown ⟨rfl, rfl, rfl, Nat.le_refl _, fun _ _ _ => rfl⟩
    refine wpList_plain hgd fun K hK => ?_
    have h3 := hK _ _ h2
    have hr := run_append_no (ty := op.type) (h0 := h0) (w := w) hu hi0
    unfold Oper.wp execOp
    simp only [ho, resolve, invoke, builtin, Sem.run_bind, Sem.run_pure, Result.andThen_ok, List.map_toArray, List.map_cons, List.map_nil, hs, hx, hr]
    exact h3
  · have hbytes : (0 + X.length) * by_ ≤ 140737488355328 := by
      have : (0 + X.length) * by_ ≤ 2000 * 1000 := Nat.mul_le_mul (by omega) hby
      omega
    refine wpList_append_own_at w hgd ts tb t ho base e i0 z k by_ hu hi0 hz0 hz1 hz2 hzs hk (.slice (some ⟨h0, 0, none⟩) 0 0) 0 [] hs hown ⟨g, 0, none⟩ X.length cap (X.flatMap c) hx (flatx_len hc X) (World.ownsRow.cells hcol rfl) (fun u hu' => by
      obtain ⟨x, _, hx'⟩ := List.mem_flatMap.1 hu'
      exact hone x u hx') (by unfold maxLen; omega) hbytes hbw ?_
    intro v' w' h1 h2 _ h4
    refine h v' w' ?_ h2
    rw [Nat.zero_add, List.nil_append] at h1
    exact h1
/-- a name more of a list that is known whole: at the append -/
theorem wp_appD {op : Oper} {a : Go.Act} {w : World} {K : Go.Act → World → Prop} {Q : Exit → Go.Act → World → Prop} (ts tb : Operand)
    (ho : op.op = .call { callee := .builtin .append, args := #[ts, tb], argTypes := #[24, 24] }) (v : Value) (zs : List Int) (hs : a.eval ts = v) (hown : OwnD w 0 v zs.length zs) (hz : zs.length ≤ 12000) (y : Int) (H : Nat) (hb : Blk w H 41 #[.int .i64 y]) (hx : a.eval tb = .slice (some ⟨H, 0, none⟩) 1 1)
    (h : ∀ g cap w', OwnD w' 0 (.slice (some ⟨g, 0, none⟩) (zs.length + 1) cap) (zs.length + 1) (zs ++ [y]) → w.grownBy w' v.ownBlock → (v.ownBlock = some g ∨ w.heap.size ≤ g) → K (a.put op.dst (.slice (some ⟨g, 0, none⟩) (zs.length + 1) cap)) w') : op.wp Tryz.prog a w K Q := by
  obtain ⟨i0, hi0, hz0, hz1, hz2⟩ := info_parts id_info
  refine wp_append_lies w ts tb 24 ho 0 41 i0 (.int .i64 0) 1 8 Tryz.underlying24 hi0 hz0 hz1 hz2 rfl (by decide) v zs.length (zs.map (Value.int .i64)) hs hown ⟨H, 0, none⟩ 1 1 [.int .i64 y] hx rfl (World.news_of_block (show Blk w H _ ([.int .i64 y] : List Value).toArray from hb)) (by intro u hu; simp at hu; subst hu; rfl) (by omega) (by unfold maxLen; omega) (by omega) (Nat.zero_le _) w.heap.size rfl ?_
  intro g cap w' h1 h2 h3 _
  refine h g cap w' ?_ h2 (h3.imp id (fun e => by omega))
  unfold OwnD
  rw [List.map_append]
  exact h1
theorem bs_id (x : Int) (W : World) : (Instr.buildSlice 24 1 #[(0, .int .i64 x)]).run Tryz.prog W = .ok (.slice (some ⟨W.heap.size, 0, none⟩) 1 1) (W.alloc (.cells #[.int .i64 x] 41)) := by kernel_rfl
/-- an answer behind which it is another one -/
def ChX {δ : Type} (FB : World → Nat → (Nat → Prop) → δ → Prop) (w w' : World) (g : Nat) (F : Nat → Prop) (D : δ) : Prop := ∃ F', FB w' g F' D ∧ Fr w w' F ∧ ∀ b, F' b → F b ∨ w.heap.size ≤ b
section
variable {δ : Type} {FB : World → Nat → (Nat → Prop) → δ → Prop} {w w1 w2 : World} {g : Nat} {F F' : Nat → Prop} {D : δ}
theorem ChX.of (h : ChX FB w1 w2 g F D) (hb : Below w.heap.size w w1) : ChX FB w w2 g F D := by
  obtain ⟨F', h1, h2, h3⟩ := h
  exact ⟨F', h1, Fr.after hb h2, fun b hf => (h3 b hf).imp_right (fun c => Nat.le_trans hb.size c)⟩
theorem ChX.join (hfr : Fr w w1 F) (hn : ∀ b, F' b → F b ∨ w.heap.size ≤ b) (k : ChX FB w1 w2 g F' D) : ChX FB w w2 g F D := by
  obtain ⟨F'', k1, k2, k3⟩ := k
  refine ⟨F'', k1, ⟨k2.1.trans hfr.1, k2.2.1.trans hfr.2.1, k2.2.2.1.trans hfr.2.2.1, Nat.le_trans hfr.2.2.2.1 k2.2.2.2.1, fun b hb hnn => ?_⟩, fun b hb => ?_⟩
  · refine (k2.2.2.2.2 b (Nat.lt_of_lt_of_le hb hfr.2.2.2.1) (fun c => ?_)).trans (hfr.2.2.2.2 b hb hnn)
    rcases hn b c with d | d
    · exact hnn d
    · omega
  · rcases k3 b hb with d | d
    · exact hn b d
    · exact Or.inr (Nat.le_trans hfr.2.2.2.1 d)
theorem ChX.still (h : FB w1 g F D) (hb : Below w.heap.size w w1) : ChX FB w w1 g F D := ⟨F, h, ⟨hb.os, hb.tape, hb.output, hb.size, fun b hl _ => hb.block b hl⟩, fun _ k => Or.inl k⟩
end
section
variable {w wb w4 : World} {g : Nat} {D : FD} {vl vd vs : Value} {F : Nat → Prop}
theorem set_at {w : World} {g o q : Nat} {u : Value} (hq : q ≠ g) : (w.setCell ⟨g, o, none⟩ u).heap[q]? = w.heap[q]? := Go.Deep.blk_setCell_other _ _ _ _ hq
/-- other nodes, in new memory -/
theorem RW.setL (h : RW w g D vl vd vs) (hF : ∀ b, F b ↔ footW g vl vd vs b) (hb : Below w.heap.size w wb) {v : Value} {L' : List Nd} (ho : OwnX 15 cNd 84 wb w.heap.size v L') :
    RW (wb.setCell ⟨g, 0, none⟩ v) g { D with L := L' } v vd vs ∧ Fr w (wb.setCell ⟨g, 0, none⟩ v) F ∧ ∀ b, footW g v vd vs b → F b ∨ w.heap.size ≤ b := by
  have h1 := h.keep hb
  have hnew : ∀ b, v.ownBlock = some b → w.heap.size ≤ b := fun b e => (ho.lt b e).1
  have hin := h.inb
  have hgl := h.blk.lt
  refine ⟨⟨h1.blk.set_ 0 v, (ho.low (Nat.zero_le _)).same (fun b e => set_at (fun q => by have := hnew b e; omega)), ownd_same h1.dir (fun b e => set_at (h.od b e).1), h1.sts.same (fun b e => set_at (h.os b e)), fun b e => ?_, h.od, h.os⟩, ?_, ?_⟩
  · have hbn := hnew b e
    refine ⟨by omega, fun e2 => ?_, fun e2 => ?_⟩
    · have := hin b (Or.inr (Or.inr (Or.inl e2))); omega
    · have := hin b (Or.inr (Or.inr (Or.inr e2))); omega
  · refine ⟨hb.os, hb.tape, hb.output, by simpa [World.setCell] using hb.size, fun b hl hn => ?_⟩
    rw [set_at (fun q => hn ((hF b).2 (Or.inl q)))]
    exact hb.block b hl
  · rintro b (e | e | e | e)
    · exact Or.inl ((hF b).2 (Or.inl e))
    · exact Or.inr (hnew b e)
    · exact Or.inl ((hF b).2 (Or.inr (Or.inr (Or.inl e))))
    · exact Or.inl ((hF b).2 (Or.inr (Or.inr (Or.inr e))))
/-- one name more that is dirty -/
theorem RW.pushD (h : RW w g D vl vd vs) (hF : ∀ b, F b ↔ footW g vl vd vs b) {o : Obj} (hgr : (w.alloc o).grownBy w4 vd.ownBlock) {gu nn gcap : Nat} {B : List Int} (hn : nn = B.length) (ho : OwnD w4 0 (.slice (some ⟨gu, 0, none⟩) nn gcap) nn B) (hat : vd.ownBlock = some gu ∨ (w.alloc o).heap.size ≤ gu) :
    RW (w4.setCell ⟨g, 1, none⟩ (.slice (some ⟨gu, 0, none⟩) nn gcap)) g { D with dirty := B } vl (.slice (some ⟨gu, 0, none⟩) nn gcap) vs ∧ Fr w (w4.setCell ⟨g, 1, none⟩ (.slice (some ⟨gu, 0, none⟩) nn gcap)) F ∧ (∀ b, footW g vl (.slice (some ⟨gu, 0, none⟩) nn gcap) vs b → F b ∨ w.heap.size ≤ b) ∧ Blk w4 g 33 #[vl, vd, .bool D.begun, vs, .int .i64 D.steps] := by
  have hal : Below w.heap.size w (w.alloc o) := alloc_below _ _
  have h1 := h.keep hal
  have hin := h.inb
  have hst : ∀ b, b < w.heap.size → vd.ownBlock ≠ some b → w4.heap[b]? = w.heap[b]? := fun b hb hne => (hgr.block b (Nat.lt_of_lt_of_le hb hal.size) (fun e => hne e.symm)).trans (hal.block b hb)
  have hgu : gu ≠ g ∧ vl.ownBlock ≠ some gu ∧ vs.ownBlock ≠ some gu := by
    rcases hat with q | q
    · exact ⟨(h.od gu q).1, fun e => (h.ol gu e).2.1 q, (h.od gu q).2⟩
    · have h2 := hal.size
      refine ⟨fun e => by have := h.blk.lt; omega, fun e => ?_, fun e => ?_⟩
      · have := hin gu (Or.inr (Or.inl e)); omega
      · have := hin gu (Or.inr (Or.inr (Or.inr e))); omega
  have hb4 : Blk w4 g 33 #[vl, vd, .bool D.begun, vs, .int .i64 D.steps] := h.blk.same (hst g h.blk.lt (fun e => (h.od g e).1 rfl))
  subst hn
  refine ⟨⟨hb4.set_ 1 _, h.nod.same (fun b e => (set_at (h.ol b e).1).trans (hst b (h.nod.lt b e).2 (fun e2 => (h.ol b e).2.1 e2))), ownd_same ho (fun b e => set_at (fun q => ?_)), h.sts.same (fun b e => (set_at (h.os b e)).trans (hst b (h.sts.lt b e).2 (fun e2 => (h.od b e2).2 e))), fun b e => ⟨(h.ol b e).1, fun e2 => ?_, (h.ol b e).2.2⟩, fun b e => ⟨?_, ?_⟩, h.os⟩, ?_, ?_, hb4⟩
  · have : gu = b := by simpa [Value.ownBlock] using e
    exact hgu.1 (this.trans q)
  · have : gu = b := by simpa [Value.ownBlock] using e2
    exact hgu.2.1 (this ▸ e)
  · have : gu = b := by simpa [Value.ownBlock] using e
    rw [← this]; exact hgu.1
  · have : gu = b := by simpa [Value.ownBlock] using e
    rw [← this]; exact hgu.2.2
  · refine ⟨hgr.os.trans hal.os, hgr.tape.trans hal.tape, hgr.output.trans hal.output, by have := hgr.size; have := hal.size; simp [World.setCell]; omega, fun b hl hn => ?_⟩
    rw [set_at (fun q => hn ((hF b).2 (Or.inl q)))]
    exact hst b hl (fun e => hn ((hF b).2 (Or.inr (Or.inr (Or.inl e)))))
  · rintro b (e | e | e | e)
    · exact Or.inl ((hF b).2 (Or.inl e))
    · exact Or.inl ((hF b).2 (Or.inr (Or.inl e)))
    · have : gu = b := by simpa [Value.ownBlock] using e
      rw [← this]
      rcases hat with q | q
      · exact Or.inl ((hF gu).2 (Or.inr (Or.inr (Or.inl q))))
      · exact Or.inr (Nat.le_trans hal.size q)
    · exact Or.inl ((hF b).2 (Or.inr (Or.inr (Or.inr e))))
end
/-! the states' list by its name -/
def RWV (vs : Value) (w : World) (g : Nat) (F : Nat → Prop) (D : FD) : Prop := ∃ vl vd, RW w g D vl vd vs ∧ ∀ b, F b ↔ footW g vl vd vs b
section
variable {w w' : World} {g : Nat} {D : FD} {vs : Value} {F : Nat → Prop}
theorem RWV.toB (h : RWV vs w g F D) : RWB w g F D := by
  obtain ⟨vl, vd, h1, h2⟩ := h
  exact ⟨vl, vd, vs, h1, h2⟩
theorem RWB.toV (h : RWB w g F D) : ∃ vs, RWV vs w g F D := by
  obtain ⟨vl, vd, vs, h1, h2⟩ := h
  exact ⟨vs, vl, vd, h1, h2⟩
theorem RWV.same (h : RWV vs w g F D) (he : ∀ b, F b → w'.heap[b]? = w.heap[b]?) : RWV vs w' g F D := by
  obtain ⟨vl, vd, h1, h2⟩ := h
  exact ⟨vl, vd, h1.same (fun b hb => he b ((h2 b).2 hb)), h2⟩
theorem RWV.keep (h : RWV vs w g F D) (hb : Below w.heap.size w w') : RWV vs w' g F D := h.same (fun b hf => hb.block b (h.toB.inb b hf))
theorem chx_toB (h : ChX (RWV vs) w w' g F D) : ChX RWB w w' g F D := by
  obtain ⟨F', h1, h2, h3⟩ := h
  exact ⟨F', h1.toB, h2, h3⟩
end
end Go.Proofs.YtdndafdninnjfaaGreat
/-
  What the reference's Put of layer 10 answers, and makes of the flow.
-/
namespace Go.Proofs.YtdndafdninnjfaaGreat
open Go.RowKit

theorem withS_step {L l : List Nd} {j : Nat} {m : Nd} (h : l[j]? = some m) : withS L (l.take (j + 1)) = withN (withS L (l.take j)) m := by
  unfold withS
  rw [List.take_add_one, h, List.foldl_append]
  rfl
theorem withN_len (L : List Nd) (n : Nd) : (withN L n).length ≤ L.length + 1 := by
  unfold withN
  have := List.length_filter_le (fun m => m.id != n.id) L
  rw [List.length_append]
  simp
  exact this
theorem withS_len : ∀ (l L : List Nd), (withS L l).length ≤ L.length + l.length
  | [], L => Nat.le_refl _
  | m :: l, L => by
    have h1 := withS_len l (withN L m)
    have h2 := withN_len L m
    show (withS (withN L m) l).length ≤ L.length + (l.length + 1)
    omega
theorem any_step {α : Type} {l : List α} {p : α → Bool} {j : Nat} {m : α} (h : l[j]? = some m) : (l.take (j + 1)).any p = ((l.take j).any p || p m) := by
  rw [List.take_add_one, h, List.any_append]
  simp
theorem any_of_at {α : Type} {l : List α} {p : α → Bool} {j : Nat} {m : α} (h : l[j]? = some m) (hp : p m = true) : l.any p = true := List.any_eq_true.2 ⟨m, List.mem_of_getElem? h, hp⟩
/-- a slice that is not of this memory -/
def AwX (F : Nat → Prop) (a : Option Addr) (n : Nat) : Prop := n = 0 ∨ ∀ ad, a = some ad → ¬ F ad.block
theorem rowx_frame {α : Type} {k : Nat} {c : α → List Value} {w w' : World} {a : Option Addr} {n : Nat} {X : List α} {F : Nat → Prop} (h : RowX k c w a n X) (ha : AwX F a n) (hf : Fr w w' F) : RowX k c w' a n X := by
  refine ⟨h.1, h.2.1, ?_⟩
  rcases h.2.2 with c | ⟨b, off, e, hb, hr⟩
  · exact Or.inl c
  · rcases ha with q | q
    · exact Or.inl q
    · exact Or.inr ⟨b, off, e, Nat.lt_of_lt_of_le hb hf.2.2.2.1, fun i x hx => range_same (hr i x hx) (hf.2.2.2.2 b hb (q _ e))⟩
theorem mat_at {w : World} {b o : Nat} {n : Nd} (h : w.rangeAt b o (cNd n)) : w.rangeAt b (o + 2) (lM n.pl) := fun j v hv => by
  have hj : j < 12 := by have := (List.getElem?_eq_some_iff.1 hv).1; exact this
  have := h (2 + j) v (by
    have e : (cNd n)[2 + j]? = (lM n.pl)[j]? := by
      match j, hj with
      | 0, _ => rfl
      | 1, _ => rfl
      | 2, _ => rfl
      | 3, _ => rfl
      | 4, _ => rfl
      | 5, _ => rfl
      | 6, _ => rfl
      | 7, _ => rfl
      | 8, _ => rfl
      | 9, _ => rfl
      | 10, _ => rfl
      | 11, _ => rfl
    rw [e]; exact hv)
  rwa [← Nat.add_assoc] at this
section
variable {w : World} {g : Nat} {D : FD} {F : Nat → Prop}
set_option maxHeartbeats 16000000 in
set_option maxRecDepth 100000 in
theorem gput_v {vs : Value} (h0 : RWV vs w g F D) (a : Option Addr) (n cap : Nat) (l : List Nd) (row : NRow w a n l) (ha : AwX F a n) (hn : D.L.length + n ≤ 1000) (hd : D.dirty.length + n ≤ 10000) :
    Calls Tryz.prog 18 #[.pointer (some ⟨g, 0, none⟩), .slice a n cap] w fun e w' => e = .returned (.int .i64 (putFE D l)) ∧ ChX (RWV vs) w w' g F (putFD D l) := by
  have h00 := h0
  obtain ⟨vl, vd, h, hF⟩ := h0
  have hbig := row.2.1
  have HL := Lib.hid row.1
  have HRow := Lib.hid row
  have HA := Lib.hid ha
  have H := Lib.hid h
  have HFt := Lib.hid hF
  have HSt : Hid (∀ u, Below w.heap.size w u → ChX (RWV vs) w u g F D) := Lib.hid (fun u q => ChX.still (h00.keep q) q)
  obtain ⟨av, cv, hvl, hrd⟩ := h.nodes
  obtain ⟨c0, hg, -⟩ := hrd w (Below.refl _ _)
  have HBe : Hid (Below w.heap.size w (w.alloc (.cells #[] 84))) := Lib.hid (alloc_below _ _)
  have HKe := Lib.hid (Blk.new w 84 #[])
  have HNo : Hid (OwnX 15 cNd 84 (w.alloc (.cells #[] 84)) 0 (.slice av D.L.length cv) D.L) := Lib.hid (by rw [← hvl]; exact h.nod.keep HBe.out)
  have c0' : (w.alloc (.cells #[] 84)).cell? ⟨g, 0, none⟩ = some (.slice av D.L.length cv) := cell_keep c0 HBe.out
  clear h hF h00 row ha hrd hvl
  go_enter Tryz.func18, Tryz.ntmps18
  go_wp2_with (at_builtin; refine wpList_copyX rfl (.tmp 11) (.tmp 15) 30 120 (.agg (cNd default).toArray) rfl Tryz.underlying30 zN_info rfl (by decide) (by decide) cNd_len cNd_one w.heap.size w.heap.size (Nat.le_refl _) (by simp) rfl HKe.out _ D.L rfl HNo.out (by omega) ?_)
  intro v5 w1 k1 k2
  have HO1 : Hid (OwnX 15 cNd 84 w1 w.heap.size v5 (withS D.L (l.take 0))) := Lib.hid (by rw [List.take_zero]; exact k1)
  have HB1 : Hid (Below w.heap.size w w1) := Lib.hid ⟨k2.os.trans HBe.out.os, k2.tape.trans HBe.out.tape, k2.output.trans HBe.out.output, Nat.le_trans HBe.out.size k2.size, fun q hq => (k2.block q (Nat.lt_of_lt_of_le hq HBe.out.size) (fun e => by injection e with e; omega)).trans (HBe.out.block q hq)⟩
  clear k1 k2 HBe HKe HNo c0 c0' hg
  go_wp2
  go_loopw [5, 6, 7] (fun v5 i _ wr => ∃ j : Nat, j ≤ n ∧ i = .int .i64 j ∧ (l.take j).any badN = false ∧ OwnX 15 cNd 84 wr w.heap.size v5 (withS D.L (l.take j)) ∧ Below w.heap.size w wr) (fun _ i _ _ => n - (ivl i).toNat)
  case atStart => exact ⟨0, by omega, rfl, by rw [List.take_zero]; rfl, HO1.out, HB1.out⟩
  case round =>
    clear HO1 HB1
    obtain ⟨j, hj, rfl, hbad, ho, hb⟩ := hrel
    have HBad := Lib.hid hbad
    have HO := Lib.hid ho
    have HB := Lib.hid hb
    have HR := Lib.hid (HRow.out.keep hb)
    clear hbad ho hb
    have hwl : (withS D.L (l.take j)).length ≤ 1000 := by
      have q1 := withS_len (l.take j) D.L
      rw [List.length_take] at q1
      omega
    by_cases hlt : j < n
    · obtain ⟨b, off, md, rfl, hbl, hm, hr⟩ := HR.out.at_ hlt
      have HRg : Hid (∀ u, Below wr.heap.size wr u → u.rangeAt b (off + j * 15) (cNd md) ∧ b < u.heap.size) := Lib.hid (fun u q => ⟨range_same hr (q.block b hbl), Nat.lt_of_lt_of_le hbl q.size⟩)
      have HM1 := Lib.hid (mat_at hr)
      have HMX := Lib.hid (mx_any md.pl)
      have HNX := Lib.hid (nx_any md)
      have HRi : Hid (∀ W, Calls Tryz.prog 37 #[.agg (lM md.pl).toArray] W fun e w' => e = .returned (.bool (okM md.pl)) ∧ Below W.heap.size W w') := Lib.hid (fun W => rmright_any md.pl W)
      have HS9 := Lib.hid (withS_step (L := D.L) hm)
      have HA9 := Lib.hid (any_step (p := badN) hm)
      have HE9 : Hid (badN md = true → putFE D l = 1) := Lib.hid (fun hp => by unfold putFE; rw [any_of_at hm hp, if_pos rfl])
      have hbd : badN md = (!okM md.pl || decide (md.id < 0)) := rfl
      obtain ⟨MM, hMM⟩ : ∃ MM, MM = lM md.pl := ⟨_, rfl⟩
      obtain ⟨XM, hXM⟩ : ∃ XM, XM = cNd md := ⟨_, rfl⟩
      obtain ⟨ok, hok⟩ : ∃ ok, ok = okM md.pl := ⟨_, rfl⟩
      obtain ⟨y, hy⟩ : ∃ y, y = md.id := ⟨_, rfl⟩
      have HXc : Hid (∀ u : World, u.rangeAt b (off + j * 15) (cNd md) → u.cell? ⟨b, off + j * 15, none⟩ = some (.int .i64 y)) := Lib.hid (fun u q => by rw [hy]; exact q 0 _ rfl)
      rw [← hMM] at HM1 HMX HRi
      rw [← hXM] at HNX HRg HXc
      rw [← hok] at HRi hbd
      rw [← hy] at hbd
      have HBd := Lib.hid hbd
      have j0 : (0 : Int) ≤ (j : Int) := by omega
      have j1 : (j : Int) < (n : Int) := by omega
      clear hm hr hMM hXM hok hy hbd HR
      go_wp2_with (refine wpList_load_mid rfl 46 (.tmp 26) rfl b (off + j * 15 + 2) rfl MM _ HM1.out Tryz.underlying46 rfl HMX.out.size ?_)
      refine (HRi.out _).mono ?_
      rintro e w2 ⟨rfl, b2⟩
      obtain ⟨hrg, hbl2⟩ := HRg.out w2 b2
      have cx := HXc.out w2 hrg
      have HRg2 := Lib.hid hrg
      replace HO := Lib.hid (HO.out.keep b2)
      replace HB := Lib.hid (bthen (w := w) HB.out b2)
      clear hrg b2 HRi HM1 hbl
      cases ok with
      | false =>
        have HE := Lib.hid (HE9.out (by rw [HBd.out]; rfl))
        have HS := Lib.hid (HSt.out _ HB.out)
        have HP : Hid (putFD D l = D) := Lib.hid (by unfold putFD; rw [HE.out, if_neg (by omega)])
        go_wp2
        go_ret
        exact ⟨by rw [HE.out]; rfl, by rw [HP.out]; exact HS.out⟩
      | true =>
        by_cases hyn : y < 0
        · have HE := Lib.hid (HE9.out (by rw [HBd.out, decide_eq_true hyn]; rfl))
          have HS := Lib.hid (HSt.out _ HB.out)
          have HP : Hid (putFD D l = D) := Lib.hid (by unfold putFD; rw [HE.out, if_neg (by omega)])
          go_wp2
          go_ret
          exact ⟨by rw [HE.out]; rfl, by rw [HP.out]; exact HS.out⟩
        · have HA8 : Hid ((l.take (j + 1)).any badN = false) := Lib.hid (by rw [HA9.out, HBad.out, HBd.out, decide_eq_false hyn]; rfl)
          obtain ⟨a5, c5, hv5, -, -, r5⟩ := HO.out.row cNd_len
          subst hv5
          have HWi := Lib.hid (gwith_any a5 _ c5 (withS D.L (l.take j)) md w2 r5 hwl)
          rw [← HNX.out.eq, ← HS9.out] at HWi
          obtain ⟨q, hq⟩ : ∃ q, q = (withS D.L (l.take j)).length := ⟨_, rfl⟩
          rw [← hq] at HWi ⊢
          have hsz2 := HB.out.size
          clear r5 hq HO
          go_wp2_with (refine wpList_load_mid rfl 84 (.tmp 42) rfl b (off + j * 15) rfl XM _ HRg2.out Tryz.underlying84 rfl HNX.out.size ?_)
          refine HWi.out.mono ?_
          rintro e w3 ⟨v', rfl, o3, b3⟩
          have K3 := Lib.hid (And.intro (OwnX.low o3 hsz2) (bthen HB.out b3))
          clear o3 b3 HWi
          go_wp2
          go_roundw
          case rel => exact ⟨j + 1, by omega, by go_num, HA8.out, K3.out.1, K3.out.2⟩
          case measure => simp [ivl] <;> omega
    · obtain rfl : j = n := by omega
      have e0 : l.take j = l := List.take_of_length_le (by rw [HL.out]; exact Nat.le_refl _)
      rw [e0] at HO HBad hwl
      have j1 : ¬ (j : Int) < (j : Int) := by omega
      obtain ⟨a5, c5, hv5, -, -, r5⟩ := HO.out.row cNd_len
      subst hv5
      obtain ⟨N, hN⟩ : ∃ N, N = withS D.L l := ⟨_, rfl⟩
      have HE8 : Hid (N.any (fun m => ringB N m.id) = true → putFE D l = 8) := Lib.hid (fun hp => by unfold putFE; rw [HBad.out, ← hN, hp]; rfl)
      have HE0 : Hid (N.any (fun m => ringB N m.id) = false → putFE D l = 0) := Lib.hid (fun hp => by unfold putFE; rw [HBad.out, ← hN, hp]; rfl)
      have HP0 : Hid (putFE D l = 0 → putFD D l = { D with L := N, dirty := D.dirty ++ l.map Nd.id }) := Lib.hid (fun hp => by unfold putFD; rw [hp, if_pos rfl, hN])
      rw [← hN] at HO hwl r5
      obtain ⟨q, hq⟩ : ∃ q, q = N.length := ⟨_, rfl⟩
      rw [← hq] at hwl r5
      have HO2 : Hid (OwnX 15 cNd 84 wr w.heap.size (.slice a5 q c5) N) := Lib.hid (by rw [hq]; exact HO.out)
      have HQ := Lib.hid hq
      have R5 := Lib.hid r5
      have hq5 := r5.2.1
      have hgw : g < wr.heap.size := (H.out.keep HB.out).blk.lt
      have cgw : wr.cell? ⟨g, 0, none⟩ = some vl := (H.out.keep HB.out).blk.cell 0
      have fgw : wr.frozen? ⟨g, 0, none⟩ = false := (H.out.keep HB.out).blk.frozen 0
      have HSl := Lib.hid (H.out.setL HFt.out HB.out HO2.out)
      rw [← hN, ← hq]
      clear e0 HR hN hq r5 HO
      go_wp2
      go_loopw [8, 9] (fun i _ wy => ∃ k : Nat, k ≤ q ∧ i = .int .i64 k ∧ (N.take k).any (fun m => ringB N m.id) = false ∧ wy = wr) (fun i _ _ => q - (ivl i).toNat)
      case atStart => exact ⟨0, by omega, rfl, by rw [List.take_zero]; rfl, rfl⟩
      case round =>
        obtain ⟨k, hk, rfl, hrn, rfl⟩ := hrel
        have HRn := Lib.hid hrn
        clear hrn
        by_cases hkl : k < q
        · obtain ⟨b, off, md, rfl, hbl, hm, hr⟩ := R5.out.at_ hkl
          have cx : World.cell? _ ⟨b, off + k * 15, none⟩ = some (.int .i64 md.id) := hr 0 _ rfl
          have HA9 := Lib.hid (any_step (p := fun m => ringB N m.id) hm)
          have HT9 : Hid (ringB N md.id = true → N.any (fun m => ringB N m.id) = true) := Lib.hid (fun hp => any_of_at (p := fun m => ringB N m.id) hm hp)
          have HRi := Lib.hid (gring_any (some ⟨b, off, none⟩) q c5 N md.id _ R5.out (by omega))
          obtain ⟨y, hy⟩ : ∃ y, y = md.id := ⟨_, rfl⟩
          obtain ⟨rb, hrb⟩ : ∃ rb, rb = ringB N md.id := ⟨_, rfl⟩
          rw [← hrb] at HRi HA9 HT9
          rw [← hy] at cx HRi
          have k0 : (0 : Int) ≤ (k : Int) := by omega
          have k1 : (k : Int) < (q : Int) := by omega
          clear hm hr hy hrb
          go_wp2_with fail
          refine HRi.out.mono ?_
          rintro e w2 ⟨rfl, rfl⟩
          clear HRi
          cases rb with
          | true =>
            have HE := Lib.hid (HE8.out (HT9.out rfl))
            have HS := Lib.hid (HSt.out _ HB.out)
            have HP : Hid (putFD D l = D) := Lib.hid (by unfold putFD; rw [HE.out, if_neg (by omega)])
            go_wp2
            go_ret
            exact ⟨by rw [HE.out]; rfl, by rw [HP.out]; exact HS.out⟩
          | false =>
            have HA8 : Hid ((N.take (k + 1)).any (fun m => ringB N m.id) = false) := Lib.hid (by rw [HA9.out, HRn.out]; rfl)
            go_wp2
            go_roundw
            case rel => exact ⟨k + 1, by omega, by go_num, HA8.out, by trivial⟩
            case measure => simp [ivl] <;> omega
        · obtain rfl : k = q := by omega
          have e0 : N.take k = N := List.take_of_length_le (by rw [HQ.out]; exact Nat.le_refl _)
          rw [e0] at HRn
          have HE := Lib.hid (HE0.out HRn.out)
          have HP := Lib.hid (HP0.out HE.out)
          have k1 : ¬ (k : Int) < (k : Int) := by omega
          clear e0 HE0 HE8 HP0 HRn
          go_upto_region 16 with fail
          refine fin (fun W => RW W g { D with L := N } (.slice a5 k c5) vd vs ∧ Fr w W F ∧ ∀ b, footW g (.slice a5 k c5) vd vs b → F b ∨ w.heap.size ≤ b) HSl.out ?_
          clear HSl HB HO2 cgw fgw hgw R5
          rintro W0 h3
          have H3 := Lib.hid h3
          clear h3
          go_wp2
          go_loopw [10] (fun i wy => ∃ (m : Nat) (vd' : Value), m ≤ j ∧ i = .int .i64 m ∧ RW wy g { D with L := N, dirty := D.dirty ++ (l.take m).map Nd.id } (.slice a5 k c5) vd' vs ∧ Fr w wy F ∧ ∀ b, footW g (.slice a5 k c5) vd' vs b → F b ∨ w.heap.size ≤ b) (fun i _ => j - (ivl i).toNat)
          case atStart => exact ⟨0, vd, by omega, rfl, by rw [List.take_zero, List.map_nil, List.append_nil]; exact H3.out.1, H3.out.2.1, H3.out.2.2⟩
          case round =>
            clear H3
            obtain ⟨m, vd', hm, rfl, hw, hfr, hsub⟩ := hrel
            have HW := Lib.hid hw
            have HFr := Lib.hid hfr
            have HSub := Lib.hid hsub
            have HR := Lib.hid (rowx_frame HRow.out HA.out hfr)
            have hg3 := hw.blk.lt
            clear hw hfr hsub
            by_cases hml : m < j
            · obtain ⟨b, off, md, rfl, hbl, hmd, hr⟩ := HR.out.at_ hml
              have cx : World.cell? _ ⟨b, off + m * 15, none⟩ = some (.int .i64 md.id) := hr 0 _ rfl
              have HSt : Hid ((l.take (m + 1)).map Nd.id = (l.take m).map Nd.id ++ [md.id]) := Lib.hid (by rw [List.take_add_one, hmd, List.map_append]; rfl)
              obtain ⟨y, hy⟩ : ∃ y, y = md.id := ⟨_, rfl⟩
              rw [← hy] at cx HSt
              obtain ⟨da, dcap, hdv, -⟩ := HW.out.dir.row
              have hdl : (D.dirty ++ (l.take m).map Nd.id).length ≤ 10000 := by
                rw [List.length_append, List.length_map, List.length_take]
                omega
              obtain ⟨B, hB⟩ : ∃ B, B = D.dirty ++ (l.take m).map Nd.id := ⟨_, rfl⟩
              have HSB : Hid (D.dirty ++ (l.take (m + 1)).map Nd.id = B ++ [y]) := Lib.hid (by rw [HSt.out, hB, List.append_assoc])
              rw [← hB] at HW hdl hdv
              have hdv2 : vd' = .slice da B.length dcap := hdv
              subst hdv2
              have hnb : ¬ F b ∧ b < w.heap.size := by
                have hj0 : 0 < j := by omega
                obtain ⟨b', off', _, e', hb', _⟩ := HRow.out.at_ hj0
                injection e' with e'
                injection e' with e1 _ _
                refine ⟨HA.out.elim (fun q => by omega) (fun q => q _ rfl), ?_⟩
                rw [e1]; exact hb'
              have HNb : Hid (∀ d, (Value.slice da B.length dcap).ownBlock = some d → d ≠ b) := Lib.hid (fun d e e2 => by
                rcases HSub.out d (Or.inr (Or.inr (Or.inl e))) with q | q
                · rw [e2] at q; exact hnb.1 q
                · omega)
              have hbg : b ≠ g := fun e => by
                rcases HSub.out g (Or.inl rfl) with q | q
                · rw [e] at hnb; exact hnb.1 q
                · omega
              have m0 : (0 : Int) ≤ (m : Int) := by omega
              have m1 : (m : Int) < (j : Int) := by omega
              go_upto_region 19 with fail
              refine fin (fun V => V.cell? ⟨b, off + m * 15, none⟩ = some (.int .i64 y) ∧ RW V g { D with L := N, dirty := B } (.slice a5 k c5) (.slice da B.length dcap) vs ∧ Fr w V F ∧ b < V.heap.size) ⟨cx, HW.out, HFr.out, hbl⟩ ?_
              clear cx HW HFr hbl hg3 hr hy HSt hB HR hmd
              rintro V ⟨cx, hw, hfr, hbl⟩
              have HW := Lib.hid hw
              have HFr := Lib.hid hfr
              have cd : V.cell? ⟨g, 1, none⟩ = some (.slice da B.length dcap) := hw.blk.cell 1
              have hgV := hw.blk.lt
              have CW := Lib.hid (And.intro cx cd)
              have CB : Hid ((V.drew.alloc (.cells #[.int .i64 y] 41)).cell? ⟨g, 1, none⟩ = some (.slice da B.length dcap) ∧ (V.drew.alloc (.cells #[.int .i64 y] 41)).cell? ⟨b, off + m * 15, none⟩ = some (.int .i64 y)) := Lib.hid ⟨cell_keep (w := V.drew) cd (alloc_below _ _), cell_keep (w := V.drew) cx (alloc_below _ _)⟩
              clear cx cd hw hfr
              refine wp_region_held_drew (S := fun w' => w'.cell? ⟨b, off + m * 15, none⟩ = some (.int .i64 y)) (by kernel_rfl) (CW.out.1) (fun hHeld => ?_)
              refine wpAnyH_take (i := 0) (v := ?_) rfl (by kernel_rfl) (by kernel_rfl) (by kernel_rfl) (fun _ _ _ h => h) (Or.inl ⟨by rfl, ?_⟩) hHeld ?_
              rotate_left
              · intro w hSw
                go_simp
                with_reducible rfl
              simp only [Act.put, List.getElem_toArray, List.getElem_cons_zero, List.setIfInBounds_toArray, List.set_cons_zero, List.set_cons_succ]
              refine wpAnyH_take (i := 1) (v := ?_) rfl (by kernel_rfl) (by kernel_rfl) (by kernel_rfl) (fun _ _ _ h => h) (Or.inl ⟨by rfl, ?_⟩) hHeld ?_
              rotate_left
              · intro w hSw
                go_simp
                with_reducible rfl
              simp only [Act.put, List.getElem_toArray, List.getElem_cons_zero, List.getElem_cons_succ, List.setIfInBounds_toArray, List.set_cons_zero, List.set_cons_succ]
              refine wpAnyH_take (i := 2) (v := ?_) rfl (by kernel_rfl) (by kernel_rfl) (by kernel_rfl) (fun _ _ _ h => h) (Or.inl ⟨by rfl, ?_⟩) hHeld ?_
              rotate_left
              · intro w hSw
                go_simp
                with_reducible rfl
              simp only [Act.put, List.getElem_toArray, List.getElem_cons_zero, List.getElem_cons_succ, List.setIfInBounds_toArray, List.set_cons_zero, List.set_cons_succ]
              refine wpAnyH_take (i := 3) (v := ?_) rfl (by kernel_rfl) (by kernel_rfl) (by kernel_rfl) (fun _ _ _ h => h) (Or.inl ⟨by rfl, ?_⟩) hHeld ?_
              rotate_left
              · intro w hSw
                go_simp
                with_reducible rfl
              simp only [Act.put, List.getElem_toArray, List.getElem_cons_zero, List.getElem_cons_succ, List.setIfInBounds_toArray, List.set_cons_zero, List.set_cons_succ]
              refine wpAnyH_take (i := 5) (v := ?_) rfl (by kernel_rfl) (by kernel_rfl) (by kernel_rfl) (fun _ _ _ h => h) (Or.inl ⟨by rfl, ?_⟩) hHeld ?_
              rotate_left
              · intro w hSw
                go_simp
                with_reducible rfl
              simp only [Act.put, List.getElem_toArray, List.getElem_cons_zero, List.getElem_cons_succ, List.setIfInBounds_toArray, List.set_cons_zero, List.set_cons_succ]
              refine wpAnyH_take (i := 6) (v := ?_) rfl (by kernel_rfl) (by kernel_rfl) (by kernel_rfl) (fun _ _ _ h => h) (Or.inl ⟨by rfl, ?_⟩) hHeld ?_
              rotate_left
              · intro w hSw
                go_simp
                with_reducible rfl
              simp only [Act.put, List.getElem_toArray, List.getElem_cons_zero, List.getElem_cons_succ, List.setIfInBounds_toArray, List.set_cons_zero, List.set_cons_succ]
              refine wpAnyH_take (i := 7) (v := ?_) rfl (by kernel_rfl) (by kernel_rfl) (by kernel_rfl) (fun _ _ _ h => h) (Or.inl ⟨by rfl, ?_⟩) hHeld ?_
              rotate_left
              · intro w hSw
                go_simp
                with_reducible rfl
              simp only [Act.put, List.getElem_toArray, List.getElem_cons_zero, List.getElem_cons_succ, List.setIfInBounds_toArray, List.set_cons_zero, List.set_cons_succ]
              refine wpAnyH_take (i := 8) (v := ?_) rfl (by kernel_rfl) (by kernel_rfl) (by kernel_rfl) (fun _ _ _ h => h) (Or.inl ⟨by rfl, ?_⟩) hHeld ?_
              rotate_left
              · intro w hSw
                go_simp
                with_reducible rfl
              simp only [Act.put, List.getElem_toArray, List.getElem_cons_zero, List.getElem_cons_succ, List.setIfInBounds_toArray, List.set_cons_zero, List.set_cons_succ]
              refine wpAnyH_take (i := 9) (v := ?_) rfl (by kernel_rfl) (by kernel_rfl) (by kernel_rfl) (fun _ _ _ h => h) (Or.inl ⟨by rfl, ?_⟩) hHeld ?_
              rotate_left
              · intro w hSw
                go_simp
                with_reducible rfl
              simp only [Act.put, List.getElem_toArray, List.getElem_cons_zero, List.getElem_cons_succ, List.setIfInBounds_toArray, List.set_cons_zero, List.set_cons_succ]
              refine wpAnyH_pair (i := 4) (j := 10) (v := .slice da B.length dcap) (u := .slice (some ⟨V.heap.size, 0, none⟩) 1 1) (w' := V.drew.alloc (.cells #[.int .i64 y] 41)) rfl rfl (by kernel_rfl) (by kernel_rfl) (by kernel_rfl) (by rfl) (by rfl) (by rfl) (by rfl) (exec_cell rfl rfl Tryz.underlying24 CW.out.2) (exec_bs rfl rfl (bs_id y _)) (exec_bs rfl rfl (bs_id y _)) (exec_cell rfl rfl Tryz.underlying24 CB.out.1) rfl hHeld (CB.out.2) ?_
              simp only [Act.put, List.getElem_toArray, List.getElem_cons_zero, List.getElem_cons_succ, List.setIfInBounds_toArray, List.set_cons_zero, List.set_cons_succ]
              refine wpAnyH_ready (rs := [11]) (by kernel_rfl) (by simp) ?_
              refine AllReadyH.cons rfl (fun K hK => ?_) AllReadyH.nil
              rw [if_pos (by rfl)]
              refine wp_appD (.tmp 73) (.tmp 79) rfl (.slice da B.length dcap) B rfl (ownd_same HW.out.dir (fun d e => (alloc_below V.drew (.cells #[.int .i64 y] 41)).block d (World.ownsRow.lt HW.out.dir d e).2)) (by omega) y V.heap.size (Blk.new V.drew _ _) rfl ?_
              intro gu gcap w4 ho4 hgr hat
              have hvb : w4.heap[b]? = V.heap[b]? := (hgr.block b (Nat.lt_of_lt_of_le hbl (alloc_below V.drew _).size) (fun e => HNb.out b e.symm rfl)).trans ((alloc_below V.drew _).block b hbl)
              have c4 : w4.cell? ⟨b, off + m * 15, none⟩ = some (.int .i64 y) := by
                have := CW.out.1
                simp only [World.cell?] at this ⊢
                rw [hvb]
                exact this
              obtain ⟨hrw, hfr2, hsub2, k4⟩ := RW.pushD (w := V.drew) (HW.out.keep (below_drew9f V)) (fun _ => Iff.rfl) hgr (by rw [List.length_append]; rfl) ho4 hat
              have HRW : Hid (RW (w4.setCell ⟨g, 1, none⟩ (.slice (some ⟨gu, 0, none⟩) (B.length + 1) gcap)) g { D with L := N, dirty := D.dirty ++ (l.take (m + 1)).map Nd.id } (.slice a5 k c5) (.slice (some ⟨gu, 0, none⟩) (B.length + 1) gcap) vs) := Lib.hid (by rw [HSB.out]; exact hrw)
              have HFr2 : Hid (Fr w (w4.setCell ⟨g, 1, none⟩ (.slice (some ⟨gu, 0, none⟩) (B.length + 1) gcap)) F) := Lib.hid (Fr.two (Fr.behind HFr.out (below_drew9f V)) hfr2 HSub.out)
              have HSub2 : Hid (∀ d, footW g (.slice a5 k c5) (.slice (some ⟨gu, 0, none⟩) (B.length + 1) gcap) vs d → F d ∨ w.heap.size ≤ d) := Lib.hid (fun d e => by
                rcases hsub2 d e with q | q
                · exact HSub.out d q
                · exact Or.inr (Nat.le_trans HFr.out.2.2.2.1 q))
              have d4 : w4.cell? ⟨g, 1, none⟩ = some (.slice da B.length dcap) := k4.cell 1
              have f4 : w4.frozen? ⟨g, 1, none⟩ = false := k4.frozen 1
              have hg4 := k4.lt
              have c5' : (w4.setCell ⟨g, 1, none⟩ (.slice (some ⟨gu, 0, none⟩) (B.length + 1) gcap)).cell? ⟨b, off + m * 15, none⟩ = some (.int .i64 y) := by
                have := c4
                simp only [World.cell?] at this ⊢
                rw [set_at hbg]
                exact this
              generalize B.length + 1 = nn at HRW HFr2 HSub2 c5' ⊢
              clear ho4 hgr hat hrw hfr2 hsub2 k4 hvb
              refine hK.out _ _ c4 (fun hHeld => ?_)
              clear hK K
              simp only [Act.put, List.getElem_toArray, List.getElem_cons_zero, List.getElem_cons_succ, List.setIfInBounds_toArray, List.set_cons_zero, List.set_cons_succ]
              refine wpAnyH_take (i := 12) (v := ?_) rfl (by kernel_rfl) (by kernel_rfl) (by kernel_rfl) (fun _ _ _ h => h) (Or.inl ⟨by rfl, ?_⟩) hHeld ?_
              rotate_left
              · intro w hSw
                go_simp
                with_reducible rfl
              simp only [Act.put, List.getElem_toArray, List.getElem_cons_zero, List.getElem_cons_succ, List.setIfInBounds_toArray, List.set_cons_zero, List.set_cons_succ]
              refine wpAnyH_take (i := 13) (v := ?_) rfl (by kernel_rfl) (by kernel_rfl) (by kernel_rfl) (fun _ _ _ h => h) (Or.inl ⟨by rfl, ?_⟩) hHeld ?_
              rotate_left
              · intro w hSw
                go_simp
                with_reducible rfl
              simp only [Act.put, List.getElem_toArray, List.getElem_cons_zero, List.getElem_cons_succ, List.setIfInBounds_toArray, List.set_cons_zero, List.set_cons_succ]
              refine wpAnyH_ready (rs := [14]) (by kernel_rfl) (by simp) ?_
              refine AllReadyH.cons rfl (fun K hK => ?_) AllReadyH.nil
              go_simp
              refine hK.out _ _ c5' (fun hHeld => ?_)
              clear hK K
              refine wpAnyH_done (by kernel_rfl) ?_ _
              clear hHeld
              refine fin (fun W => ∃ vq, RW W g { D with L := N, dirty := D.dirty ++ (l.take (m + 1)).map Nd.id } (.slice a5 k c5) vq vs ∧ Fr w W F ∧ ∀ d, footW g (.slice a5 k c5) vq vs d → F d ∨ w.heap.size ≤ d) ⟨_, HRW.out, HFr2.out, HSub2.out⟩ ?_
              clear HRW HFr2 HSub2 c4 c5' d4 f4 hg4 CW CB HW HFr HSub HNb
              rintro W9 ⟨vq, h91, h92, h93⟩
              have H9 := Lib.hid (And.intro h91 (And.intro h92 h93))
              clear h91 h92 h93
              go_wp2
              go_roundw
              case rel => exact ⟨m + 1, vq, by omega, by go_num, H9.out.1, H9.out.2.1, H9.out.2.2⟩
              case measure => simp [ivl] <;> omega
            · obtain rfl : m = j := by omega
              have e1 : l.take m = l := List.take_of_length_le (by rw [HL.out]; exact Nat.le_refl _)
              rw [e1, ← HP.out] at HW
              have m1 : ¬ (m : Int) < (m : Int) := by omega
              clear e1 HR
              go_wp2
              go_ret
              exact ⟨by rw [HE.out]; rfl, _, ⟨_, _, HW.out, fun _ => Iff.rfl⟩, HFr.out, HSub.out⟩
theorem gput_any (h0 : RWB w g F D) (a : Option Addr) (n cap : Nat) (l : List Nd) (row : NRow w a n l) (ha : AwX F a n) (hn : D.L.length + n ≤ 1000) (hd : D.dirty.length + n ≤ 10000) :
    Calls Tryz.prog 18 #[.pointer (some ⟨g, 0, none⟩), .slice a n cap] w fun e w' => e = .returned (.int .i64 (putFE D l)) ∧ ChX RWB w w' g F (putFD D l) := by
  obtain ⟨vs, h1⟩ := h0.toV
  exact (gput_v h1 a n cap l row ha hn hd).mono (fun _ _ q => ⟨q.1, chx_toB q.2⟩)
end
end Go.Proofs.YtdndafdninnjfaaGreat
/-
  What the reference's Drop of layer 10 answers, and makes of the flow.
-/
namespace Go.Proofs.YtdndafdninnjfaaGreat
open Go.RowKit

theorem nod_ix {L : List Nd} (h : (L.map Nd.id).Nodup) {x : Int} {i k : Nat} {n m : Nd} (hi : L[i]? = some n) (hn : n.id = x) (hk : L[k]? = some m) : m.id = x ↔ k = i := by
  constructor
  · intro e
    have h1 : (L.map Nd.id)[i]? = some x := by rw [List.getElem?_map, hi]; simp [hn]
    have h2 : (L.map Nd.id)[k]? = some x := by rw [List.getElem?_map, hk]; simp [e]
    obtain ⟨l1, e1⟩ := List.getElem?_eq_some_iff.1 h1
    obtain ⟨l2, e2⟩ := List.getElem?_eq_some_iff.1 h2
    have hp := List.pairwise_iff_getElem.1 h
    rcases Nat.lt_trichotomy k i with c | c | c
    · exact absurd (e2.trans e1.symm) (hp k i l2 l1 c)
    · exact c
    · exact absurd (e1.trans e2.symm) (hp i k l1 l2 c)
  · rintro rfl
    rw [hi] at hk
    injection hk with hk
    rw [← hk]; exact hn
theorem filtN_step {L : List Nd} {p : Nd → Bool} {j : Nat} {m : Nd} (h : L[j]? = some m) : (L.take (j + 1)).filter p = (L.take j).filter p ++ (if p m then [m] else []) := by
  rw [List.take_add_one, h, List.filter_append]
  cases q : p m <;> simp [q]
/-- behind some of the rounds -/
structure DInv (w wr : World) (g : Nat) (F : Nat → Prop) (D : FD) (x : Int) (k : Nat) (v6 vl vd vs : Value) : Prop where
  out : OwnX 15 cNd 84 wr w.heap.size v6 ((D.L.take k).filter (fun m => m.id != x))
  rw_ : RW wr g { D with dirty := D.dirty ++ ((D.L.take k).filter (fun n => hangs D.L n.id == x)).map Nd.id } vl vd vs
  fr : Fr w wr F
  sub : ∀ b, footW g vl vd vs b → F b ∨ w.heap.size ≤ b
  far : ∀ b, v6.ownBlock = some b → ¬ footW g vl vd vs b
  old : ∀ b, vl.ownBlock = some b → b < w.heap.size
theorem DInv.keep {w wr w' : World} {g : Nat} {F : Nat → Prop} {D : FD} {x : Int} {k : Nat} {v6 vl vd vs : Value} (h : DInv w wr g F D x k v6 vl vd vs) (hb : Below wr.heap.size wr w') : DInv w w' g F D x k v6 vl vd vs :=
  ⟨h.out.keep hb, h.rw_.keep hb, Fr.behind h.fr hb, h.sub, h.far, h.old⟩
/-- one node more that stays -/
theorem DInv.push {w wr w2 : World} {g : Nat} {F : Nat → Prop} {D : FD} {x : Int} {k : Nat} {v6 v' vl vd vs : Value} {o : Obj} {X : List Nd} (h : DInv w wr g F D x k v6 vl vd vs) (k1 : OwnX 15 cNd 84 w2 w.heap.size v' X) (k2 : (wr.alloc o).grownBy w2 v6.ownBlock) (k3 : v'.ownBlock = v6.ownBlock ∨ v'.ownBlock = some (wr.heap.size + 1)) (hsz : w.heap.size ≤ wr.heap.size) :
    OwnX 15 cNd 84 w2 w.heap.size v' X ∧ RW w2 g { D with dirty := D.dirty ++ ((D.L.take k).filter (fun n => hangs D.L n.id == x)).map Nd.id } vl vd vs ∧ Fr w w2 F ∧ (∀ b, v'.ownBlock = some b → ¬ footW g vl vd vs b) := by
  have hal : Below wr.heap.size wr (wr.alloc o) := alloc_below _ _
  have h1 := h.rw_.keep hal
  refine ⟨k1, h1.same (fun b hf => k2.block b (h1.inb b hf) (fun e => h.far b e.symm hf)), ?_, fun b e hf => ?_⟩
  · refine ⟨k2.os.trans (hal.os.trans h.fr.1), k2.tape.trans (hal.tape.trans h.fr.2.1), k2.output.trans (hal.output.trans h.fr.2.2.1), Nat.le_trans h.fr.2.2.2.1 (Nat.le_trans hal.size k2.size), fun b hb hn => ?_⟩
    have hbw : b < wr.heap.size := by omega
    exact (k2.block b (Nat.lt_of_lt_of_le hbw hal.size) (fun e => by have := (h.out.lt b e.symm).1; omega)).trans ((hal.block b hbw).trans (h.fr.2.2.2.2 b hb hn))
  · rcases k3 with c | c
    · exact h.far b (c ▸ e) hf
    · rw [c] at e
      injection e with e
      have := h.rw_.inb b hf
      omega
/-- other nodes, in memory of one's own -/
theorem RW.setL2 {w : World} {g : Nat} {D : FD} {vl vd vs v : Value} {base : Nat} {L' : List Nd} (h : RW w g D vl vd vs) (ho : OwnX 15 cNd 84 w base v L') (hfar : ∀ b, v.ownBlock = some b → ¬ footW g vl vd vs b) :
    RW (w.setCell ⟨g, 0, none⟩ v) g { D with L := L' } v vd vs ∧ Fr w (w.setCell ⟨g, 0, none⟩ v) (fun b => b = g) :=
  ⟨⟨h.blk.set_ 0 v, (ho.low (Nat.zero_le _)).same (fun b e => set_at (fun q => hfar b e (Or.inl q))), ownd_same h.dir (fun b e => set_at (h.od b e).1), h.sts.same (fun b e => set_at (h.os b e)), fun b e => ⟨fun q => hfar b e (Or.inl q), fun q => hfar b e (Or.inr (Or.inr (Or.inl q))), fun q => hfar b e (Or.inr (Or.inr (Or.inr q)))⟩, h.od, h.os⟩,
    ⟨rfl, rfl, rfl, by simp [World.setCell], fun b _ hn => set_at hn⟩⟩
section
variable {w : World} {g : Nat} {D : FD} {F : Nat → Prop}
set_option maxHeartbeats 4000000 in
set_option maxRecDepth 100000 in
theorem gdrop_v {vs : Value} (h0 : RWV vs w g F D) (hnod : (D.L.map Nd.id).Nodup) (x : Int) (hn : D.L.length ≤ 1000) (hd : D.dirty.length + D.L.length ≤ 11000) :
    Calls Tryz.prog 20 #[.pointer (some ⟨g, 0, none⟩), .int .i64 x] w fun e w' => e = .returned (.bool (dropFB D x)) ∧ ChX (RWV vs) w w' g F (dropFD D x) := by
  have h00 := h0
  obtain ⟨vl, vd, h, hF⟩ := h0
  obtain ⟨av, cv, hvl, hrd⟩ := h.nodes
  obtain ⟨c0, hg, hr0⟩ := hrd w (Below.refl _ _)
  have HAt := Lib.hid (gat_any av D.L.length cv D.L x w hr0)
  cases hx : elF Nd.id D.L x with
  | none =>
    rw [ix_none hx] at HAt
    have HB : Hid (dropFB D x = false) := Lib.hid (by unfold dropFB; rw [hx]; rfl)
    have HS : Hid (ChX (RWV vs) w w g F (dropFD D x)) := Lib.hid (by unfold dropFD; rw [HB.out]; exact ChX.still h00 (Below.refl _ _))
    obtain ⟨n, hne⟩ : ∃ n, n = D.L.length := ⟨_, rfl⟩
    rw [← hne] at HAt c0
    clear h hF h00 hrd hr0 hx hvl hnod hne
    go_enter Tryz.func20, Tryz.ntmps20
    go_wp2_with fail
    refine HAt.out.mono ?_
    rintro e w1 ⟨rfl, rfl⟩
    go_wp2
    go_ret
    exact ⟨by rw [HB.out]; rfl, HS.out⟩
  | some nd =>
    obtain ⟨i, hi, hiL, hil, hid⟩ := ix_some hx
    rw [hi] at HAt
    have HB : Hid (dropFB D x = true) := Lib.hid (by unfold dropFB; rw [hx]; rfl)
    have HDD : Hid (dropFD D x = { D with L := D.L.filter (fun m => m.id != x), dirty := D.dirty ++ (D.L.filter (fun n => hangs D.L n.id == x)).map Nd.id }) := Lib.hid (by unfold dropFD; rw [HB.out]; rfl)
    have HNi : Hid (∀ k m, D.L[k]? = some m → (m.id = x ↔ k = i)) := Lib.hid (fun k m hk => nod_ix hnod hiL hid hk)
    have HFt := Lib.hid hF
    have HI0 : Hid (DInv w w g F D x 0 (.slice none 0 0) vl vd vs) := Lib.hid ⟨OwnX.nil _ _ _ _ _, by rw [List.take_zero]; simpa using h, ⟨rfl, rfl, rfl, Nat.le_refl _, fun _ _ _ => rfl⟩, fun b hb => Or.inl ((hF b).2 hb), fun b e => (by cases e), fun b e => (h.nod.lt b e).2⟩
    obtain ⟨n, hne⟩ : ∃ n, n = D.L.length := ⟨_, rfl⟩
    have HRd : Hid (∀ wr k v6 vdd, DInv w wr g F D x k v6 vl vdd vs → wr.cell? ⟨g, 0, none⟩ = some (.slice av n cv) ∧ g < wr.heap.size ∧ NRow wr av n D.L) := Lib.hid (fun wr k v6 vdd hh => by
      obtain ⟨a2, c2, e2, hrd2⟩ := hh.rw_.nodes
      have e3 : vl = .slice a2 D.L.length c2 := e2
      rw [hvl] at e3
      injection e3 with q1 _ q3
      obtain ⟨r1, r2, r3⟩ := hrd2 wr (Below.refl _ _)
      rw [← q1, ← q3] at r1
      rw [← q1] at r3
      rw [hne]
      exact ⟨r1, r2, r3⟩)
    have HN := Lib.hid hne
    have HVl : Hid (vl = .slice av n cv) := Lib.hid (by rw [hvl, hne])
    rw [← hne] at HAt c0 hn hd hil
    clear h hF h00 hrd hr0 hx hvl hnod hne hiL hid hi
    go_enter Tryz.func20, Tryz.ntmps20
    go_wp2_with fail
    refine HAt.out.mono ?_
    rintro e w1 ⟨rfl, rfl⟩
    clear HAt
    go_wp2
    go_loopw [6, 7] (fun v6 kv wr => ∃ (k : Nat) (vdd : Value), k ≤ n ∧ kv = .int .i64 k ∧ DInv w wr g F D x k v6 vl vdd vs) (fun _ kv _ => n - (ivl kv).toNat)
    case atStart => exact ⟨0, vd, by omega, rfl, HI0.out⟩
    case round =>
      clear HI0 c0 hg
      obtain ⟨k, vdd, hk, rfl, hinv⟩ := hrel
      have HV := Lib.hid hinv
      obtain ⟨c0, hg, hr0⟩ := HRd.out _ _ _ _ hinv
      have HR := Lib.hid hr0
      have hszw : w.heap.size ≤ wr.heap.size := hinv.fr.2.2.2.1
      clear hinv hr0
      by_cases hkn : k < n
      · obtain ⟨b, off, md, rfl, hbl, hmd, hr⟩ := HR.out.at_ hkn
        have HF1 := Lib.hid (filtN_step (p := fun m => m.id != x) hmd)
        have HF2 := Lib.hid (filtN_step (p := fun m => hangs D.L m.id == x) hmd)
        have HNX := Lib.hid (nx_any md)
        have HRg : Hid (wr.rangeAt b (off + k * 15) (cNd md)) := Lib.hid hr
        have HNk := Lib.hid (HNi.out k md hmd)
        obtain ⟨XM, hXM⟩ : ∃ XM, XM = cNd md := ⟨_, rfl⟩
        obtain ⟨y, hy⟩ : ∃ y, y = md.id := ⟨_, rfl⟩
        have hpl : ((D.L.take k).filter (fun m => m.id != x)).length ≤ 1000 := by
          have q1 := List.length_filter_le (fun m => m.id != x) (D.L.take k)
          rw [List.length_take] at q1
          omega
        have HRow9 : Hid (∀ u, RW u g { D with dirty := D.dirty ++ ((D.L.take k).filter (fun n => hangs D.L n.id == x)).map Nd.id } vl vdd vs → u.cell? ⟨g, 0, none⟩ = some (.slice (some ⟨b, off, none⟩) n cv) ∧ u.cell? ⟨b, off + k * 15, none⟩ = some (.int .i64 y) ∧ g < u.heap.size ∧ b < u.heap.size ∧ NRow u (some ⟨b, off, none⟩) n D.L) := Lib.hid (fun u hu => by
          obtain ⟨a2, c2, e2, hrd2⟩ := hu.nodes
          have e3 : vl = .slice a2 D.L.length c2 := e2
          rw [HVl.out] at e3
          injection e3 with q1 _ q3
          obtain ⟨r1, r2, r3⟩ := hrd2 u (Below.refl _ _)
          rw [← q1, ← q3] at r1
          rw [← q1] at r3
          have r1 : u.cell? ⟨g, 0, none⟩ = some (.slice (some ⟨b, off, none⟩) D.L.length cv) := r1
          have r3 : NRow u (some ⟨b, off, none⟩) D.L.length D.L := r3
          rw [← HN.out] at r1 r3
          obtain ⟨b', off', md', e', hb', hx', hr'⟩ := r3.at_ hkn
          injection e' with e'
          injection e' with e4 e5 _
          subst e4 e5
          rw [hmd] at hx'
          injection hx' with hx'
          subst hx'
          exact ⟨r1, by rw [hy]; exact hr' 0 _ rfl, r2, hb', r3⟩)
        rw [← hXM] at HNX HRg
        rw [← hy] at HNk HF1 HF2
        have k0 : (0 : Int) ≤ (k : Int) := by omega
        have k1 : (k : Int) < (n : Int) := by omega
        have HY := Lib.hid hy
        clear hy hmd hXM
        by_cases hki : k = i
        · subst hki
          have HF4 : Hid ((D.L.take (k + 1)).filter (fun m => m.id != x) = (D.L.take k).filter (fun m => m.id != x)) := Lib.hid (by
            have : y = x := HNk.out.2 rfl
            rw [HF1.out]; simp [this])
          go_upto_region 10 with fail
          refine fin (fun W => OwnX 15 cNd 84 W w.heap.size u6 ((D.L.take (k + 1)).filter (fun m => m.id != x)) ∧ RW W g { D with dirty := D.dirty ++ ((D.L.take k).filter (fun n => hangs D.L n.id == x)).map Nd.id } vl vdd vs ∧ Fr w W F ∧ ∀ q, (u6).ownBlock = some q → ¬ footW g vl vdd vs q) ⟨by rw [HF4.out]; exact HV.out.out, HV.out.rw_, HV.out.fr, HV.out.far⟩ ?_
          clear c0 hg hbl hr HR HRg
          rintro W ⟨ho, hw, hfr, hfar⟩
          have HO := Lib.hid ho
          have HW := Lib.hid hw
          have HFr := Lib.hid hfr
          have HFar := Lib.hid hfar
          obtain ⟨c0, cx, hg, hbl, hrow⟩ := HRow9.out W hw
          have HRw := Lib.hid hrow
          have HH : Hid (∀ q, Calls Tryz.prog 12 #[.slice (some ⟨b, off, none⟩) n cv, .int .i64 y] (W.drewN q) fun e w' => e = .returned (.int .i64 (hangs D.L y)) ∧ (W.drewN q) = w') := Lib.hid (fun q => ghangs_any _ n cv D.L y _ (HRw.out.keep (Go.below_drewN (Below.refl _ _) q)))
          obtain ⟨p, hp⟩ : ∃ p, p = hangs D.L y := ⟨_, rfl⟩
          have HF3 : Hid ((D.L.take (k + 1)).filter (fun n => hangs D.L n.id == x) = (D.L.take k).filter (fun n => hangs D.L n.id == x) ++ (if p == x then [md] else [])) := Lib.hid (by rw [HF2.out, hp])
          rw [← hp] at HH
          clear ho hw hfr hfar hrow hp
          go_wp2
          go_quiet (first | (go_at_call 12; refine Calls.quiet_of_same ((HH.out _).mono fun _ _ z => ⟨z.1, z.2.symm⟩)))
          refine fin (fun W => OwnX 15 cNd 84 W w.heap.size u6 ((D.L.take (k + 1)).filter (fun m => m.id != x)) ∧ RW W g { D with dirty := D.dirty ++ ((D.L.take k).filter (fun n => hangs D.L n.id == x)).map Nd.id } vl vdd vs ∧ Fr w W F) ⟨HO.out.keep (Go.below_drewN (Below.refl _ _) nq), HW.out.keep (Go.below_drewN (Below.refl _ _) nq), Fr.behind HFr.out (Go.below_drewN (Below.refl _ _) nq)⟩ ?_
          clear HO HW HFr c0 cx hg hbl HRw HH
          rintro V ⟨ho, hw, hfr⟩
          have HO := Lib.hid ho
          have HW := Lib.hid hw
          have HFr := Lib.hid hfr
          have HSub := Lib.hid HV.out.sub
          have HOld := Lib.hid HV.out.old
          clear ho hw hfr
          by_cases hpx : p = x
          · have hpx' : (p == x) = true := by simpa using hpx
            rw [hpx'] at HF3
            obtain ⟨c0, cx, hg, hbl, -⟩ := HRow9.out V HW.out
            obtain ⟨da, dcap, hdv, -⟩ := HW.out.dir.row
            have hdl : (D.dirty ++ ((D.L.take k).filter (fun n => hangs D.L n.id == x)).map Nd.id).length ≤ 11000 := by
              have q1 := List.length_filter_le (fun n => hangs D.L n.id == x) (D.L.take k)
              rw [List.length_take] at q1
              rw [List.length_append, List.length_map]
              omega
            obtain ⟨B, hB⟩ : ∃ B, B = D.dirty ++ ((D.L.take k).filter (fun n => hangs D.L n.id == x)).map Nd.id := ⟨_, rfl⟩
            have HSB : Hid (D.dirty ++ ((D.L.take (k + 1)).filter (fun n => hangs D.L n.id == x)).map Nd.id = B ++ [y]) := Lib.hid (by rw [HF3.out, List.map_append, ← List.append_assoc, ← hB, HY.out]; rfl)
            have HRow8 : Hid (∀ u, RW u g { D with dirty := B } vl vdd vs → u.cell? ⟨g, 0, none⟩ = some (.slice (some ⟨b, off, none⟩) n cv) ∧ u.cell? ⟨b, off + k * 15, none⟩ = some (.int .i64 y)) := Lib.hid (fun u hu => by
              rw [hB] at hu
              obtain ⟨q1, q2, _⟩ := HRow9.out u hu
              exact ⟨q1, q2⟩)
            rw [← hB] at HW hdl hdv
            have hdv2 : vdd = .slice da B.length dcap := hdv
            have cd : V.cell? ⟨g, 1, none⟩ = some (.slice da B.length dcap) := by rw [← hdv2]; exact HW.out.blk.cell 1
            have HWd : Hid (OwnD V 0 (.slice da B.length dcap) B.length B) := Lib.hid (by rw [← hdv2]; exact HW.out.dir)
            have HDv := Lib.hid hdv2
            have CW := Lib.hid (And.intro (And.intro c0 cx) cd)
            have CB : Hid ((V.drew.alloc (.cells #[.int .i64 y] 41)).cell? ⟨g, 1, none⟩ = some (.slice da B.length dcap) ∧ (V.drew.alloc (.cells #[.int .i64 y] 41)).cell? ⟨g, 0, none⟩ = some (.slice (some ⟨b, off, none⟩) n cv) ∧ (V.drew.alloc (.cells #[.int .i64 y] 41)).cell? ⟨b, off + k * 15, none⟩ = some (.int .i64 y)) := Lib.hid ⟨cell_keep (w := V.drew) cd (alloc_below _ _), cell_keep (w := V.drew) c0 (alloc_below _ _), cell_keep (w := V.drew) cx (alloc_below _ _)⟩
            clear c0 cx cd hB hdv hdv2
            go_upto_region 11 with fail
            refine wp_region_held_drew (S := fun w' => w'.cell? ⟨g, 0, none⟩ = some (.slice (some ⟨b, off, none⟩) n cv) ∧ w'.cell? ⟨b, off + k * 15, none⟩ = some (.int .i64 y)) (by kernel_rfl) (CW.out.1) (fun hHeld => ?_)
            refine wpAnyH_take (i := 0) (v := ?_) rfl (by kernel_rfl) (by kernel_rfl) (by kernel_rfl) (fun _ _ _ h => h) (Or.inl ⟨by rfl, ?_⟩) hHeld ?_
            rotate_left
            · intro w hSw
              obtain ⟨s0, s1⟩ := hSw
              go_simp
              with_reducible rfl
            simp only [Act.put, List.getElem_toArray, List.getElem_cons_zero, List.setIfInBounds_toArray, List.set_cons_zero, List.set_cons_succ]
            refine wpAnyH_take (i := 1) (v := ?_) rfl (by kernel_rfl) (by kernel_rfl) (by kernel_rfl) (fun _ _ _ h => h) (Or.inl ⟨by rfl, ?_⟩) hHeld ?_
            rotate_left
            · intro w hSw
              obtain ⟨s0, s1⟩ := hSw
              go_simp
              with_reducible rfl
            simp only [Act.put, List.getElem_toArray, List.getElem_cons_zero, List.getElem_cons_succ, List.setIfInBounds_toArray, List.set_cons_zero, List.set_cons_succ]
            refine wpAnyH_take (i := 2) (v := ?_) rfl (by kernel_rfl) (by kernel_rfl) (by kernel_rfl) (fun _ _ _ h => h) (Or.inl ⟨by rfl, ?_⟩) hHeld ?_
            rotate_left
            · intro w hSw
              obtain ⟨s0, s1⟩ := hSw
              go_simp
              with_reducible rfl
            simp only [Act.put, List.getElem_toArray, List.getElem_cons_zero, List.getElem_cons_succ, List.setIfInBounds_toArray, List.set_cons_zero, List.set_cons_succ]
            refine wpAnyH_take (i := 3) (v := ?_) rfl (by kernel_rfl) (by kernel_rfl) (by kernel_rfl) (fun _ _ _ h => h) (Or.inl ⟨by rfl, ?_⟩) hHeld ?_
            rotate_left
            · intro w hSw
              obtain ⟨s0, s1⟩ := hSw
              go_simp
              with_reducible rfl
            simp only [Act.put, List.getElem_toArray, List.getElem_cons_zero, List.getElem_cons_succ, List.setIfInBounds_toArray, List.set_cons_zero, List.set_cons_succ]
            refine wpAnyH_take (i := 5) (v := ?_) rfl (by kernel_rfl) (by kernel_rfl) (by kernel_rfl) (fun _ _ _ h => h) (Or.inl ⟨by rfl, ?_⟩) hHeld ?_
            rotate_left
            · intro w hSw
              obtain ⟨s0, s1⟩ := hSw
              go_simp
              with_reducible rfl
            simp only [Act.put, List.getElem_toArray, List.getElem_cons_zero, List.getElem_cons_succ, List.setIfInBounds_toArray, List.set_cons_zero, List.set_cons_succ]
            refine wpAnyH_take (i := 6) (v := ?_) rfl (by kernel_rfl) (by kernel_rfl) (by kernel_rfl) (fun _ _ _ h => h) (Or.inl ⟨by rfl, ?_⟩) hHeld ?_
            rotate_left
            · intro w hSw
              obtain ⟨s0, s1⟩ := hSw
              go_simp
              with_reducible rfl
            simp only [Act.put, List.getElem_toArray, List.getElem_cons_zero, List.getElem_cons_succ, List.setIfInBounds_toArray, List.set_cons_zero, List.set_cons_succ]
            refine wpAnyH_take (i := 7) (v := ?_) rfl (by kernel_rfl) (by kernel_rfl) (by kernel_rfl) (fun _ _ _ h => h) (Or.inl ⟨by rfl, ?_⟩) hHeld ?_
            rotate_left
            · intro w hSw
              obtain ⟨s0, s1⟩ := hSw
              go_simp
              with_reducible rfl
            simp only [Act.put, List.getElem_toArray, List.getElem_cons_zero, List.getElem_cons_succ, List.setIfInBounds_toArray, List.set_cons_zero, List.set_cons_succ]
            refine wpAnyH_take (i := 8) (v := ?_) rfl (by kernel_rfl) (by kernel_rfl) (by kernel_rfl) (fun _ _ _ h => h) (Or.inl ⟨by rfl, ?_⟩) hHeld ?_
            rotate_left
            · intro w hSw
              obtain ⟨s0, s1⟩ := hSw
              go_simp
              with_reducible rfl
            simp only [Act.put, List.getElem_toArray, List.getElem_cons_zero, List.getElem_cons_succ, List.setIfInBounds_toArray, List.set_cons_zero, List.set_cons_succ]
            refine wpAnyH_take (i := 9) (v := ?_) rfl (by kernel_rfl) (by kernel_rfl) (by kernel_rfl) (fun _ _ _ h => h) (Or.inl ⟨by rfl, ?_⟩) hHeld ?_
            rotate_left
            · intro w hSw
              obtain ⟨s0, s1⟩ := hSw
              go_simp
              with_reducible rfl
            simp only [Act.put, List.getElem_toArray, List.getElem_cons_zero, List.getElem_cons_succ, List.setIfInBounds_toArray, List.set_cons_zero, List.set_cons_succ]
            refine wpAnyH_take (i := 10) (v := ?_) rfl (by kernel_rfl) (by kernel_rfl) (by kernel_rfl) (fun _ _ _ h => h) (Or.inl ⟨by rfl, ?_⟩) hHeld ?_
            rotate_left
            · intro w hSw
              obtain ⟨s0, s1⟩ := hSw
              go_simp
              with_reducible rfl
            simp only [Act.put, List.getElem_toArray, List.getElem_cons_zero, List.getElem_cons_succ, List.setIfInBounds_toArray, List.set_cons_zero, List.set_cons_succ]
            refine wpAnyH_take (i := 11) (v := ?_) rfl (by kernel_rfl) (by kernel_rfl) (by kernel_rfl) (fun _ _ _ h => h) (Or.inl ⟨by rfl, ?_⟩) hHeld ?_
            rotate_left
            · intro w hSw
              obtain ⟨s0, s1⟩ := hSw
              go_simp
              with_reducible rfl
            simp only [Act.put, List.getElem_toArray, List.getElem_cons_zero, List.getElem_cons_succ, List.setIfInBounds_toArray, List.set_cons_zero, List.set_cons_succ]
            refine wpAnyH_take (i := 12) (v := ?_) rfl (by kernel_rfl) (by kernel_rfl) (by kernel_rfl) (fun _ _ _ h => h) (Or.inl ⟨by rfl, ?_⟩) hHeld ?_
            rotate_left
            · intro w hSw
              obtain ⟨s0, s1⟩ := hSw
              go_simp
              with_reducible rfl
            simp only [Act.put, List.getElem_toArray, List.getElem_cons_zero, List.getElem_cons_succ, List.setIfInBounds_toArray, List.set_cons_zero, List.set_cons_succ]
            refine wpAnyH_pair (i := 4) (j := 13) (v := .slice da B.length dcap) (u := .slice (some ⟨V.heap.size, 0, none⟩) 1 1) (w' := V.drew.alloc (.cells #[.int .i64 y] 41)) rfl rfl (by kernel_rfl) (by kernel_rfl) (by kernel_rfl) (by rfl) (by rfl) (by rfl) (by rfl) (exec_cell rfl rfl Tryz.underlying24 CW.out.2) (exec_bs rfl rfl (bs_id y _)) (exec_bs rfl rfl (bs_id y _)) (exec_cell rfl rfl Tryz.underlying24 CB.out.1) rfl hHeld (CB.out.2) ?_
            simp only [Act.put, List.getElem_toArray, List.getElem_cons_zero, List.getElem_cons_succ, List.setIfInBounds_toArray, List.set_cons_zero, List.set_cons_succ]
            refine wpAnyH_ready (rs := [14]) (by kernel_rfl) (by simp) ?_
            refine AllReadyH.cons rfl (fun K hK => ?_) AllReadyH.nil
            rw [if_pos (by rfl)]
            refine wp_appD (.tmp 57) (.tmp 66) rfl (.slice da B.length dcap) B rfl (ownd_same HWd.out (fun d e => (alloc_below V.drew (.cells #[.int .i64 y] 41)).block d (World.ownsRow.lt HWd.out d e).2)) (by omega) y V.heap.size (Blk.new V.drew _ _) rfl ?_
            intro gu gcap w4 ho4 hgr hat
            rw [← HDv.out] at hgr hat
            obtain ⟨hrw, hfr2, hsub2, k4⟩ := RW.pushD (w := V.drew) (HW.out.keep (below_drew9f V)) (fun _ => Iff.rfl) hgr (by rw [List.length_append]; rfl) ho4 hat
            have hal : Below V.heap.size V (V.drew.alloc (.cells #[.int .i64 y] 41)) := bthen (below_drew9f V) (alloc_below _ _)
            have hv6 : OwnX 15 cNd 84 w4 w.heap.size u6 ((D.L.take (k + 1)).filter (fun m => m.id != x)) := (HO.out.keep hal).same (fun q e => hgr.block q ((HO.out.keep hal).lt q e).2 (fun e2 => HFar.out q e (Or.inr (Or.inr (Or.inl e2.symm)))))
            have hvb : vl.ownBlock = some b := by rw [HVl.out]; rfl
            have hb4 : w4.heap[b]? = V.heap[b]? := (hgr.block b (Nat.lt_of_lt_of_le (HW.out.nod.lt b hvb).2 hal.size) (fun e => (HW.out.ol b hvb).2.1 e.symm)).trans (hal.block b (HW.out.nod.lt b hvb).2)
            have c4b : w4.cell? ⟨b, off + k * 15, none⟩ = some (.int .i64 y) := by
              have := CW.out.1.2
              simp only [World.cell?] at this ⊢
              rw [hb4]
              exact this
            have c4 : w4.cell? ⟨g, 0, none⟩ = some (.slice (some ⟨b, off, none⟩) n cv) ∧ w4.cell? ⟨b, off + k * 15, none⟩ = some (.int .i64 y) := ⟨by
              have := k4.cell 0
              rw [this, HVl.out]
              rfl, c4b⟩
            have H9a : Hid (∃ vq, DInv w (w4.setCell ⟨g, 1, none⟩ (.slice (some ⟨gu, 0, none⟩) (B.length + 1) gcap)) g F D x (k + 1) u6 vl vq vs) := Lib.hid (by
              refine ⟨_, ⟨hv6.same (fun q e => set_at (fun e2 => HFar.out q e (Or.inl e2))), by rw [HSB.out]; exact hrw, Fr.two (Fr.behind HFr.out (below_drew9f V)) hfr2 HSub.out, fun d e => ?_, fun q e hf => ?_, HOld.out⟩⟩
              · rcases hsub2 d e with z | z
                · exact HSub.out d z
                · exact Or.inr (Nat.le_trans HFr.out.2.2.2.1 z)
              · rcases hf with z | z | z | z
                · exact HFar.out q e (Or.inl z)
                · exact HFar.out q e (Or.inr (Or.inl z))
                · have e3 : gu = q := by simpa [Value.ownBlock] using z
                  rcases hat with z2 | z2
                  · exact HFar.out q e (Or.inr (Or.inr (Or.inl (e3 ▸ z2))))
                  · have z4 := (HO.out.lt q e).2
                    have z5 : V.heap.size ≤ (V.drew.alloc (.cells #[.int .i64 y] 41)).heap.size := hal.size
                    have z6 : (V.drew.alloc (.cells #[.int .i64 y] 41)).heap.size ≤ gu := z2
                    omega
                · exact HFar.out q e (Or.inr (Or.inr (Or.inr z))))
            have c5b : (w4.setCell ⟨g, 1, none⟩ (.slice (some ⟨gu, 0, none⟩) (B.length + 1) gcap)).cell? ⟨g, 0, none⟩ = some (.slice (some ⟨b, off, none⟩) n cv) ∧ (w4.setCell ⟨g, 1, none⟩ (.slice (some ⟨gu, 0, none⟩) (B.length + 1) gcap)).cell? ⟨b, off + k * 15, none⟩ = some (.int .i64 y) := ⟨by
              have := hrw.blk.cell 0
              rw [this, HVl.out]
              rfl, by
              have := c4b
              simp only [World.cell?] at this ⊢
              rw [set_at (HW.out.ol b hvb).1]
              exact this⟩
            have d4 : w4.cell? ⟨g, 1, none⟩ = some (.slice da B.length dcap) := by rw [← HDv.out]; exact k4.cell 1
            have f4 : w4.frozen? ⟨g, 1, none⟩ = false := k4.frozen 1
            have hg4 := k4.lt
            generalize B.length + 1 = nn at H9a c5b ⊢
            clear ho4 hgr hat hrw hfr2 hsub2 k4 hv6 hal hvb hb4 c4b
            refine hK.out _ _ c4 (fun hHeld => ?_)
            clear hK K
            simp only [Act.put, List.getElem_toArray, List.getElem_cons_zero, List.getElem_cons_succ, List.setIfInBounds_toArray, List.set_cons_zero, List.set_cons_succ]
            refine wpAnyH_take (i := 15) (v := ?_) rfl (by kernel_rfl) (by kernel_rfl) (by kernel_rfl) (fun _ _ _ h => h) (Or.inl ⟨by rfl, ?_⟩) hHeld ?_
            rotate_left
            · intro w hSw
              obtain ⟨s0, s1⟩ := hSw
              go_simp
              with_reducible rfl
            simp only [Act.put, List.getElem_toArray, List.getElem_cons_zero, List.getElem_cons_succ, List.setIfInBounds_toArray, List.set_cons_zero, List.set_cons_succ]
            refine wpAnyH_take (i := 16) (v := ?_) rfl (by kernel_rfl) (by kernel_rfl) (by kernel_rfl) (fun _ _ _ h => h) (Or.inl ⟨by rfl, ?_⟩) hHeld ?_
            rotate_left
            · intro w hSw
              obtain ⟨s0, s1⟩ := hSw
              go_simp
              with_reducible rfl
            simp only [Act.put, List.getElem_toArray, List.getElem_cons_zero, List.getElem_cons_succ, List.setIfInBounds_toArray, List.set_cons_zero, List.set_cons_succ]
            refine wpAnyH_ready (rs := [17]) (by kernel_rfl) (by simp) ?_
            refine AllReadyH.cons rfl (fun K hK => ?_) AllReadyH.nil
            go_simp
            refine hK.out _ _ c5b (fun hHeld => ?_)
            clear hK K
            refine wpAnyH_done (by kernel_rfl) ?_ _
            clear hHeld
            refine fin (fun W => ∃ vq, DInv w W g F D x (k + 1) u6 vl vq vs) H9a.out ?_
            clear H9a c4 c5b d4 f4 hg4 CW CB HW HFr HSub HO HWd
            rintro W9 ⟨vq, h91⟩
            have H9 := Lib.hid h91
            clear h91
            go_wp2
            go_roundw
            case rel => exact ⟨k + 1, vq, by omega, by go_num, H9.out⟩
            case measure => simp [ivl] <;> omega
          · have hpx' : (p == x) = false := by simpa using hpx
            rw [hpx'] at HF3
            have H9 : Hid (DInv w V g F D x (k + 1) u6 vl vdd vs) := Lib.hid ⟨HO.out, by rw [HF3.out]; simpa using HW.out, HFr.out, HSub.out, HFar.out, HOld.out⟩
            clear HO HW HFr
            go_wp2
            go_roundw
            case rel => exact ⟨k + 1, vdd, by omega, by go_num, H9.out⟩
            case measure => simp [ivl] <;> omega
        · have hki2 : ¬ ((k : Int) = (i : Int)) := by omega
          have HF4 : Hid ((D.L.take (k + 1)).filter (fun m => m.id != x) = (D.L.take k).filter (fun m => m.id != x) ++ [md]) := Lib.hid (by
            have : y ≠ x := fun e => hki (HNk.out.1 e)
            rw [HF1.out]; simp [this])
          have HV9 := Lib.hid HV.out.out
          have hml : XM.length = 15 := HNX.out.len
          have HXe := Lib.hid (HNX.out.eq)
          go_wp2_with (first
            | refine wpList_load_mid rfl 84 (.tmp 34) rfl b (off + k * 15) rfl XM _ HRg.out Tryz.underlying84 rfl HNX.out.size ?_
            | refine wpList_bs8 rfl 30 84 (.tmp 35) rfl XM rfl HNX.out.bs ?_
            | (at_builtin; refine wpList_pushX rfl (.tmp 28) (.tmp 36) 30 120 (.agg (cNd default).toArray) rfl Tryz.underlying30 zN_info rfl (by decide) (by decide) cNd_len md (cNd_one md) rfl (HV9.out.keep (alloc_below _ _)) wr.heap.size 1 rfl (by rw [← HXe.out]; exact blk_whole (Blk.new wr _ _)) (by omega) (by simp; omega) ?_))
          intro v6b w2 q1 q2 q3
          obtain ⟨r1, r2, r3, r4⟩ := HV.out.push q1 q2 q3 hszw
          rw [← HF4.out] at r1
          have HP := Lib.hid (And.intro r1 (And.intro r2 (And.intro r3 r4)))
          clear q1 q2 q3 r1 r2 r3 r4
          go_upto_region 10 with fail
          refine fin (fun W => OwnX 15 cNd 84 W w.heap.size v6b ((D.L.take (k + 1)).filter (fun m => m.id != x)) ∧ RW W g { D with dirty := D.dirty ++ ((D.L.take k).filter (fun n => hangs D.L n.id == x)).map Nd.id } vl vdd vs ∧ Fr w W F ∧ ∀ q, (v6b).ownBlock = some q → ¬ footW g vl vdd vs q) HP.out ?_
          clear c0 hg hbl hr HR HRg HP
          rintro W ⟨ho, hw, hfr, hfar⟩
          have HO := Lib.hid ho
          have HW := Lib.hid hw
          have HFr := Lib.hid hfr
          have HFar := Lib.hid hfar
          obtain ⟨c0, cx, hg, hbl, hrow⟩ := HRow9.out W hw
          have HRw := Lib.hid hrow
          have HH : Hid (∀ q, Calls Tryz.prog 12 #[.slice (some ⟨b, off, none⟩) n cv, .int .i64 y] (W.drewN q) fun e w' => e = .returned (.int .i64 (hangs D.L y)) ∧ (W.drewN q) = w') := Lib.hid (fun q => ghangs_any _ n cv D.L y _ (HRw.out.keep (Go.below_drewN (Below.refl _ _) q)))
          obtain ⟨p, hp⟩ : ∃ p, p = hangs D.L y := ⟨_, rfl⟩
          have HF3 : Hid ((D.L.take (k + 1)).filter (fun n => hangs D.L n.id == x) = (D.L.take k).filter (fun n => hangs D.L n.id == x) ++ (if p == x then [md] else [])) := Lib.hid (by rw [HF2.out, hp])
          rw [← hp] at HH
          clear ho hw hfr hfar hrow hp
          go_wp2
          go_quiet (first | (go_at_call 12; refine Calls.quiet_of_same ((HH.out _).mono fun _ _ z => ⟨z.1, z.2.symm⟩)))
          refine fin (fun W => OwnX 15 cNd 84 W w.heap.size v6b ((D.L.take (k + 1)).filter (fun m => m.id != x)) ∧ RW W g { D with dirty := D.dirty ++ ((D.L.take k).filter (fun n => hangs D.L n.id == x)).map Nd.id } vl vdd vs ∧ Fr w W F) ⟨HO.out.keep (Go.below_drewN (Below.refl _ _) nq), HW.out.keep (Go.below_drewN (Below.refl _ _) nq), Fr.behind HFr.out (Go.below_drewN (Below.refl _ _) nq)⟩ ?_
          clear HO HW HFr c0 cx hg hbl HRw HH
          rintro V ⟨ho, hw, hfr⟩
          have HO := Lib.hid ho
          have HW := Lib.hid hw
          have HFr := Lib.hid hfr
          have HSub := Lib.hid HV.out.sub
          have HOld := Lib.hid HV.out.old
          clear ho hw hfr
          by_cases hpx : p = x
          · have hpx' : (p == x) = true := by simpa using hpx
            rw [hpx'] at HF3
            obtain ⟨c0, cx, hg, hbl, -⟩ := HRow9.out V HW.out
            obtain ⟨da, dcap, hdv, -⟩ := HW.out.dir.row
            have hdl : (D.dirty ++ ((D.L.take k).filter (fun n => hangs D.L n.id == x)).map Nd.id).length ≤ 11000 := by
              have q1 := List.length_filter_le (fun n => hangs D.L n.id == x) (D.L.take k)
              rw [List.length_take] at q1
              rw [List.length_append, List.length_map]
              omega
            obtain ⟨B, hB⟩ : ∃ B, B = D.dirty ++ ((D.L.take k).filter (fun n => hangs D.L n.id == x)).map Nd.id := ⟨_, rfl⟩
            have HSB : Hid (D.dirty ++ ((D.L.take (k + 1)).filter (fun n => hangs D.L n.id == x)).map Nd.id = B ++ [y]) := Lib.hid (by rw [HF3.out, List.map_append, ← List.append_assoc, ← hB, HY.out]; rfl)
            have HRow8 : Hid (∀ u, RW u g { D with dirty := B } vl vdd vs → u.cell? ⟨g, 0, none⟩ = some (.slice (some ⟨b, off, none⟩) n cv) ∧ u.cell? ⟨b, off + k * 15, none⟩ = some (.int .i64 y)) := Lib.hid (fun u hu => by
              rw [hB] at hu
              obtain ⟨q1, q2, _⟩ := HRow9.out u hu
              exact ⟨q1, q2⟩)
            rw [← hB] at HW hdl hdv
            have hdv2 : vdd = .slice da B.length dcap := hdv
            have cd : V.cell? ⟨g, 1, none⟩ = some (.slice da B.length dcap) := by rw [← hdv2]; exact HW.out.blk.cell 1
            have HWd : Hid (OwnD V 0 (.slice da B.length dcap) B.length B) := Lib.hid (by rw [← hdv2]; exact HW.out.dir)
            have HDv := Lib.hid hdv2
            have CW := Lib.hid (And.intro (And.intro c0 cx) cd)
            have CB : Hid ((V.drew.alloc (.cells #[.int .i64 y] 41)).cell? ⟨g, 1, none⟩ = some (.slice da B.length dcap) ∧ (V.drew.alloc (.cells #[.int .i64 y] 41)).cell? ⟨g, 0, none⟩ = some (.slice (some ⟨b, off, none⟩) n cv) ∧ (V.drew.alloc (.cells #[.int .i64 y] 41)).cell? ⟨b, off + k * 15, none⟩ = some (.int .i64 y)) := Lib.hid ⟨cell_keep (w := V.drew) cd (alloc_below _ _), cell_keep (w := V.drew) c0 (alloc_below _ _), cell_keep (w := V.drew) cx (alloc_below _ _)⟩
            clear c0 cx cd hB hdv hdv2
            go_upto_region 11 with fail
            refine wp_region_held_drew (S := fun w' => w'.cell? ⟨g, 0, none⟩ = some (.slice (some ⟨b, off, none⟩) n cv) ∧ w'.cell? ⟨b, off + k * 15, none⟩ = some (.int .i64 y)) (by kernel_rfl) (CW.out.1) (fun hHeld => ?_)
            refine wpAnyH_take (i := 0) (v := ?_) rfl (by kernel_rfl) (by kernel_rfl) (by kernel_rfl) (fun _ _ _ h => h) (Or.inl ⟨by rfl, ?_⟩) hHeld ?_
            rotate_left
            · intro w hSw
              obtain ⟨s0, s1⟩ := hSw
              go_simp
              with_reducible rfl
            simp only [Act.put, List.getElem_toArray, List.getElem_cons_zero, List.setIfInBounds_toArray, List.set_cons_zero, List.set_cons_succ]
            refine wpAnyH_take (i := 1) (v := ?_) rfl (by kernel_rfl) (by kernel_rfl) (by kernel_rfl) (fun _ _ _ h => h) (Or.inl ⟨by rfl, ?_⟩) hHeld ?_
            rotate_left
            · intro w hSw
              obtain ⟨s0, s1⟩ := hSw
              go_simp
              with_reducible rfl
            simp only [Act.put, List.getElem_toArray, List.getElem_cons_zero, List.getElem_cons_succ, List.setIfInBounds_toArray, List.set_cons_zero, List.set_cons_succ]
            refine wpAnyH_take (i := 2) (v := ?_) rfl (by kernel_rfl) (by kernel_rfl) (by kernel_rfl) (fun _ _ _ h => h) (Or.inl ⟨by rfl, ?_⟩) hHeld ?_
            rotate_left
            · intro w hSw
              obtain ⟨s0, s1⟩ := hSw
              go_simp
              with_reducible rfl
            simp only [Act.put, List.getElem_toArray, List.getElem_cons_zero, List.getElem_cons_succ, List.setIfInBounds_toArray, List.set_cons_zero, List.set_cons_succ]
            refine wpAnyH_take (i := 3) (v := ?_) rfl (by kernel_rfl) (by kernel_rfl) (by kernel_rfl) (fun _ _ _ h => h) (Or.inl ⟨by rfl, ?_⟩) hHeld ?_
            rotate_left
            · intro w hSw
              obtain ⟨s0, s1⟩ := hSw
              go_simp
              with_reducible rfl
            simp only [Act.put, List.getElem_toArray, List.getElem_cons_zero, List.getElem_cons_succ, List.setIfInBounds_toArray, List.set_cons_zero, List.set_cons_succ]
            refine wpAnyH_take (i := 5) (v := ?_) rfl (by kernel_rfl) (by kernel_rfl) (by kernel_rfl) (fun _ _ _ h => h) (Or.inl ⟨by rfl, ?_⟩) hHeld ?_
            rotate_left
            · intro w hSw
              obtain ⟨s0, s1⟩ := hSw
              go_simp
              with_reducible rfl
            simp only [Act.put, List.getElem_toArray, List.getElem_cons_zero, List.getElem_cons_succ, List.setIfInBounds_toArray, List.set_cons_zero, List.set_cons_succ]
            refine wpAnyH_take (i := 6) (v := ?_) rfl (by kernel_rfl) (by kernel_rfl) (by kernel_rfl) (fun _ _ _ h => h) (Or.inl ⟨by rfl, ?_⟩) hHeld ?_
            rotate_left
            · intro w hSw
              obtain ⟨s0, s1⟩ := hSw
              go_simp
              with_reducible rfl
            simp only [Act.put, List.getElem_toArray, List.getElem_cons_zero, List.getElem_cons_succ, List.setIfInBounds_toArray, List.set_cons_zero, List.set_cons_succ]
            refine wpAnyH_take (i := 7) (v := ?_) rfl (by kernel_rfl) (by kernel_rfl) (by kernel_rfl) (fun _ _ _ h => h) (Or.inl ⟨by rfl, ?_⟩) hHeld ?_
            rotate_left
            · intro w hSw
              obtain ⟨s0, s1⟩ := hSw
              go_simp
              with_reducible rfl
            simp only [Act.put, List.getElem_toArray, List.getElem_cons_zero, List.getElem_cons_succ, List.setIfInBounds_toArray, List.set_cons_zero, List.set_cons_succ]
            refine wpAnyH_take (i := 8) (v := ?_) rfl (by kernel_rfl) (by kernel_rfl) (by kernel_rfl) (fun _ _ _ h => h) (Or.inl ⟨by rfl, ?_⟩) hHeld ?_
            rotate_left
            · intro w hSw
              obtain ⟨s0, s1⟩ := hSw
              go_simp
              with_reducible rfl
            simp only [Act.put, List.getElem_toArray, List.getElem_cons_zero, List.getElem_cons_succ, List.setIfInBounds_toArray, List.set_cons_zero, List.set_cons_succ]
            refine wpAnyH_take (i := 9) (v := ?_) rfl (by kernel_rfl) (by kernel_rfl) (by kernel_rfl) (fun _ _ _ h => h) (Or.inl ⟨by rfl, ?_⟩) hHeld ?_
            rotate_left
            · intro w hSw
              obtain ⟨s0, s1⟩ := hSw
              go_simp
              with_reducible rfl
            simp only [Act.put, List.getElem_toArray, List.getElem_cons_zero, List.getElem_cons_succ, List.setIfInBounds_toArray, List.set_cons_zero, List.set_cons_succ]
            refine wpAnyH_take (i := 10) (v := ?_) rfl (by kernel_rfl) (by kernel_rfl) (by kernel_rfl) (fun _ _ _ h => h) (Or.inl ⟨by rfl, ?_⟩) hHeld ?_
            rotate_left
            · intro w hSw
              obtain ⟨s0, s1⟩ := hSw
              go_simp
              with_reducible rfl
            simp only [Act.put, List.getElem_toArray, List.getElem_cons_zero, List.getElem_cons_succ, List.setIfInBounds_toArray, List.set_cons_zero, List.set_cons_succ]
            refine wpAnyH_take (i := 11) (v := ?_) rfl (by kernel_rfl) (by kernel_rfl) (by kernel_rfl) (fun _ _ _ h => h) (Or.inl ⟨by rfl, ?_⟩) hHeld ?_
            rotate_left
            · intro w hSw
              obtain ⟨s0, s1⟩ := hSw
              go_simp
              with_reducible rfl
            simp only [Act.put, List.getElem_toArray, List.getElem_cons_zero, List.getElem_cons_succ, List.setIfInBounds_toArray, List.set_cons_zero, List.set_cons_succ]
            refine wpAnyH_take (i := 12) (v := ?_) rfl (by kernel_rfl) (by kernel_rfl) (by kernel_rfl) (fun _ _ _ h => h) (Or.inl ⟨by rfl, ?_⟩) hHeld ?_
            rotate_left
            · intro w hSw
              obtain ⟨s0, s1⟩ := hSw
              go_simp
              with_reducible rfl
            simp only [Act.put, List.getElem_toArray, List.getElem_cons_zero, List.getElem_cons_succ, List.setIfInBounds_toArray, List.set_cons_zero, List.set_cons_succ]
            refine wpAnyH_pair (i := 4) (j := 13) (v := .slice da B.length dcap) (u := .slice (some ⟨V.heap.size, 0, none⟩) 1 1) (w' := V.drew.alloc (.cells #[.int .i64 y] 41)) rfl rfl (by kernel_rfl) (by kernel_rfl) (by kernel_rfl) (by rfl) (by rfl) (by rfl) (by rfl) (exec_cell rfl rfl Tryz.underlying24 CW.out.2) (exec_bs rfl rfl (bs_id y _)) (exec_bs rfl rfl (bs_id y _)) (exec_cell rfl rfl Tryz.underlying24 CB.out.1) rfl hHeld (CB.out.2) ?_
            simp only [Act.put, List.getElem_toArray, List.getElem_cons_zero, List.getElem_cons_succ, List.setIfInBounds_toArray, List.set_cons_zero, List.set_cons_succ]
            refine wpAnyH_ready (rs := [14]) (by kernel_rfl) (by simp) ?_
            refine AllReadyH.cons rfl (fun K hK => ?_) AllReadyH.nil
            rw [if_pos (by rfl)]
            refine wp_appD (.tmp 57) (.tmp 66) rfl (.slice da B.length dcap) B rfl (ownd_same HWd.out (fun d e => (alloc_below V.drew (.cells #[.int .i64 y] 41)).block d (World.ownsRow.lt HWd.out d e).2)) (by omega) y V.heap.size (Blk.new V.drew _ _) rfl ?_
            intro gu gcap w4 ho4 hgr hat
            rw [← HDv.out] at hgr hat
            obtain ⟨hrw, hfr2, hsub2, k4⟩ := RW.pushD (w := V.drew) (HW.out.keep (below_drew9f V)) (fun _ => Iff.rfl) hgr (by rw [List.length_append]; rfl) ho4 hat
            have hal : Below V.heap.size V (V.drew.alloc (.cells #[.int .i64 y] 41)) := bthen (below_drew9f V) (alloc_below _ _)
            have hv6 : OwnX 15 cNd 84 w4 w.heap.size v6b ((D.L.take (k + 1)).filter (fun m => m.id != x)) := (HO.out.keep hal).same (fun q e => hgr.block q ((HO.out.keep hal).lt q e).2 (fun e2 => HFar.out q e (Or.inr (Or.inr (Or.inl e2.symm)))))
            have hvb : vl.ownBlock = some b := by rw [HVl.out]; rfl
            have hb4 : w4.heap[b]? = V.heap[b]? := (hgr.block b (Nat.lt_of_lt_of_le (HW.out.nod.lt b hvb).2 hal.size) (fun e => (HW.out.ol b hvb).2.1 e.symm)).trans (hal.block b (HW.out.nod.lt b hvb).2)
            have c4b : w4.cell? ⟨b, off + k * 15, none⟩ = some (.int .i64 y) := by
              have := CW.out.1.2
              simp only [World.cell?] at this ⊢
              rw [hb4]
              exact this
            have c4 : w4.cell? ⟨g, 0, none⟩ = some (.slice (some ⟨b, off, none⟩) n cv) ∧ w4.cell? ⟨b, off + k * 15, none⟩ = some (.int .i64 y) := ⟨by
              have := k4.cell 0
              rw [this, HVl.out]
              rfl, c4b⟩
            have H9a : Hid (∃ vq, DInv w (w4.setCell ⟨g, 1, none⟩ (.slice (some ⟨gu, 0, none⟩) (B.length + 1) gcap)) g F D x (k + 1) v6b vl vq vs) := Lib.hid (by
              refine ⟨_, ⟨hv6.same (fun q e => set_at (fun e2 => HFar.out q e (Or.inl e2))), by rw [HSB.out]; exact hrw, Fr.two (Fr.behind HFr.out (below_drew9f V)) hfr2 HSub.out, fun d e => ?_, fun q e hf => ?_, HOld.out⟩⟩
              · rcases hsub2 d e with z | z
                · exact HSub.out d z
                · exact Or.inr (Nat.le_trans HFr.out.2.2.2.1 z)
              · rcases hf with z | z | z | z
                · exact HFar.out q e (Or.inl z)
                · exact HFar.out q e (Or.inr (Or.inl z))
                · have e3 : gu = q := by simpa [Value.ownBlock] using z
                  rcases hat with z2 | z2
                  · exact HFar.out q e (Or.inr (Or.inr (Or.inl (e3 ▸ z2))))
                  · have z4 := (HO.out.lt q e).2
                    have z5 : V.heap.size ≤ (V.drew.alloc (.cells #[.int .i64 y] 41)).heap.size := hal.size
                    have z6 : (V.drew.alloc (.cells #[.int .i64 y] 41)).heap.size ≤ gu := z2
                    omega
                · exact HFar.out q e (Or.inr (Or.inr (Or.inr z))))
            have c5b : (w4.setCell ⟨g, 1, none⟩ (.slice (some ⟨gu, 0, none⟩) (B.length + 1) gcap)).cell? ⟨g, 0, none⟩ = some (.slice (some ⟨b, off, none⟩) n cv) ∧ (w4.setCell ⟨g, 1, none⟩ (.slice (some ⟨gu, 0, none⟩) (B.length + 1) gcap)).cell? ⟨b, off + k * 15, none⟩ = some (.int .i64 y) := ⟨by
              have := hrw.blk.cell 0
              rw [this, HVl.out]
              rfl, by
              have := c4b
              simp only [World.cell?] at this ⊢
              rw [set_at (HW.out.ol b hvb).1]
              exact this⟩
            have d4 : w4.cell? ⟨g, 1, none⟩ = some (.slice da B.length dcap) := by rw [← HDv.out]; exact k4.cell 1
            have f4 : w4.frozen? ⟨g, 1, none⟩ = false := k4.frozen 1
            have hg4 := k4.lt
            generalize B.length + 1 = nn at H9a c5b ⊢
            clear ho4 hgr hat hrw hfr2 hsub2 k4 hv6 hal hvb hb4 c4b
            refine hK.out _ _ c4 (fun hHeld => ?_)
            clear hK K
            simp only [Act.put, List.getElem_toArray, List.getElem_cons_zero, List.getElem_cons_succ, List.setIfInBounds_toArray, List.set_cons_zero, List.set_cons_succ]
            refine wpAnyH_take (i := 15) (v := ?_) rfl (by kernel_rfl) (by kernel_rfl) (by kernel_rfl) (fun _ _ _ h => h) (Or.inl ⟨by rfl, ?_⟩) hHeld ?_
            rotate_left
            · intro w hSw
              obtain ⟨s0, s1⟩ := hSw
              go_simp
              with_reducible rfl
            simp only [Act.put, List.getElem_toArray, List.getElem_cons_zero, List.getElem_cons_succ, List.setIfInBounds_toArray, List.set_cons_zero, List.set_cons_succ]
            refine wpAnyH_take (i := 16) (v := ?_) rfl (by kernel_rfl) (by kernel_rfl) (by kernel_rfl) (fun _ _ _ h => h) (Or.inl ⟨by rfl, ?_⟩) hHeld ?_
            rotate_left
            · intro w hSw
              obtain ⟨s0, s1⟩ := hSw
              go_simp
              with_reducible rfl
            simp only [Act.put, List.getElem_toArray, List.getElem_cons_zero, List.getElem_cons_succ, List.setIfInBounds_toArray, List.set_cons_zero, List.set_cons_succ]
            refine wpAnyH_ready (rs := [17]) (by kernel_rfl) (by simp) ?_
            refine AllReadyH.cons rfl (fun K hK => ?_) AllReadyH.nil
            go_simp
            refine hK.out _ _ c5b (fun hHeld => ?_)
            clear hK K
            refine wpAnyH_done (by kernel_rfl) ?_ _
            clear hHeld
            refine fin (fun W => ∃ vq, DInv w W g F D x (k + 1) v6b vl vq vs) H9a.out ?_
            clear H9a c4 c5b d4 f4 hg4 CW CB HW HFr HSub HO HWd
            rintro W9 ⟨vq, h91⟩
            have H9 := Lib.hid h91
            clear h91
            go_wp2
            go_roundw
            case rel => exact ⟨k + 1, vq, by omega, by go_num, H9.out⟩
            case measure => simp [ivl] <;> omega
          · have hpx' : (p == x) = false := by simpa using hpx
            rw [hpx'] at HF3
            have H9 : Hid (DInv w V g F D x (k + 1) v6b vl vdd vs) := Lib.hid ⟨HO.out, by rw [HF3.out]; simpa using HW.out, HFr.out, HSub.out, HFar.out, HOld.out⟩
            clear HO HW HFr
            go_wp2
            go_roundw
            case rel => exact ⟨k + 1, vdd, by omega, by go_num, H9.out⟩
            case measure => simp [ivl] <;> omega
      · obtain rfl : k = n := by omega
        have e0 : D.L.take k = D.L := List.take_of_length_le (by rw [HN.out]; exact Nat.le_refl _)
        obtain ⟨a6, c6, hv6, -⟩ := HV.out.out.row cNd_len
        obtain ⟨n6, hn6⟩ : ∃ n6, n6 = ((D.L.take k).filter (fun m => m.id != x)).length := ⟨_, rfl⟩
        rw [← hn6] at hv6
        subst hv6
        clear hn6
        have HE : Hid (ChX (RWV vs) w (wr.setCell ⟨g, 0, none⟩ (.slice a6 n6 c6)) g F (dropFD D x)) := Lib.hid (by
          obtain ⟨h1, h2, h3, h4, h5, _⟩ := HV.out
          rw [e0] at h1 h2
          obtain ⟨r1, r2⟩ := h2.setL2 h1 h5
          rw [HDD.out]
          refine ⟨footW g (.slice a6 n6 c6) vdd vs, ⟨_, _, r1, fun _ => Iff.rfl⟩, Fr.two h3 r2 (fun q e => by rw [e]; exact h4 g (Or.inl rfl)), ?_⟩
          rintro q (e | e | e | e)
          · exact h4 q (Or.inl e)
          · exact Or.inr (h1.lt q e).1
          · exact h4 q (Or.inr (Or.inr (Or.inl e)))
          · exact h4 q (Or.inr (Or.inr (Or.inr e))))
        have cg : wr.cell? ⟨g, 0, none⟩ = some vl := HV.out.rw_.blk.cell 0
        have fg : wr.frozen? ⟨g, 0, none⟩ = false := HV.out.rw_.blk.frozen 0
        have k1 : ¬ (k : Int) < (k : Int) := by omega
        rw [HVl.out] at cg
        clear e0 HR HV c0
        go_upto_region 13 with fail
        refine fin (fun W => ChX (RWV vs) w W g F (dropFD D x)) HE.out ?_
        clear HE cg fg hg
        rintro W9 h9
        have H9 := Lib.hid h9
        clear h9
        go_wp2
        go_ret
        exact ⟨by rw [HB.out]; rfl, H9.out⟩
theorem gdrop_any (h0 : RWB w g F D) (hnod : (D.L.map Nd.id).Nodup) (x : Int) (hn : D.L.length ≤ 1000) (hd : D.dirty.length + D.L.length ≤ 11000) :
    Calls Tryz.prog 20 #[.pointer (some ⟨g, 0, none⟩), .int .i64 x] w fun e w' => e = .returned (.bool (dropFB D x)) ∧ ChX RWB w w' g F (dropFD D x) := by
  obtain ⟨vs, h1⟩ := h0.toV
  exact (gdrop_v h1 hnod x hn hd).mono (fun _ _ q => ⟨q.1, chx_toB q.2⟩)
end
end Go.Proofs.YtdndafdninnjfaaGreat
