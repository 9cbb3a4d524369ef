/-
  5 texts in one file, each with its own heading.
-/
import Derived.Test.YtkondkajpmafkaaGreatMP35
import Derived.Test.YtkondkajpmafkaaGreatMP32
/-
  A flow as plain data stays right: behind Put, Drop and Run; the acts of the laws of layer 10 as plain data.
-/
namespace Go.Proofs.YtkondkajpmafkaaGreat
open Go.RowKit

structure DOk (D : FD) : Prop where
  nod : (D.L.map Nd.id).Nodup
  wf : WF (treesN D.L)
  ok : ∀ n ∈ D.L, okM n.pl = true
  nn : ∀ n ∈ D.L, 0 ≤ n.id
  rg : ∀ n ∈ D.L, Rg n.id ∧ Rg n.par
  st : D.begun = true → ∀ x, (elF Nd.id D.L x).isSome = true → x ∉ touchN D → ∃ s, fate D.L x = (some s, 0) ∧ elF Stt.id D.sts x = some s
structure Bd10 (a m : Nat) (D : FD) : Prop where
  l : D.L.length ≤ m
  d : D.dirty.length ≤ 200 * m
  s : D.steps ≤ 200 * a
section
variable {FB : World → Nat → (Nat → Prop) → FD → Prop}
end
section
variable {w : World} {g : Nat} {D : FD} {vl vd vs : Value}
end
structure A10 where
  k : Int
  a : Option Addr
  n : Nat
  cap : Nat
  l : List Nd
  b : Option Addr
  m : Nat
  cap' : Nat
  ids : List Int
def c10 (x : A10) : List Value := [.int .u8 x.k, .slice x.a x.n x.cap, .slice x.b x.m x.cap']
theorem yieldsIf_bld4 {ops : Array Oper} {S : World → Prop} {op : Oper} {a : Go.Act} (hw : Region.wanted op (yielded ops a.tmps) = true) (t : TypeId) (x0 x1 x2 x3 : Operand) (ho : op.op = .build t #[(0, x0), (1, x1), (2, x2), (3, x3)]) (v0 v1 v2 v3 vr : Value) (h0 : a.eval x0 = v0) (h1 : a.eval x1 = v1) (h2 : a.eval x2 = v2) (h3 : a.eval x3 = v3)
    (hrun : ∀ W, (Instr.build t #[(0, v0), (1, v1), (2, v2), (3, v3)]).run Tryz.prog W = .ok vr W) : YieldsIf Tryz.prog ops S op vr a :=
  .inl ⟨hw, fun w _ => by
    unfold execOp
    simp only [ho]
    simp [h0, h1, h2, h3, hrun]⟩
theorem wp_bs1 {op : Oper} {a : Go.Act} {w : World} {K : Go.Act → World → Prop} {Q : Exit → Go.Act → World → Prop} (t e : TypeId) (x : Operand) (ho : op.op = .buildSlice t 1 #[(0, x)]) (X : List Value) (hx : a.eval x = .agg X.toArray)
    (hrun : ∀ W, (Instr.buildSlice t 1 #[(0, .agg X.toArray)]).run Tryz.prog W = .ok (.slice (some ⟨W.heap.size, 0, none⟩) 1 1) (W.alloc (.cells X.toArray e)))
    (h : K (a.put op.dst (.slice (some ⟨w.heap.size, 0, none⟩) 1 1)) (w.alloc (.cells X.toArray e))) : op.wp Tryz.prog a w K Q := by
  unfold Oper.wp execOp
  simp only [ho]
  simp [hx, hrun]
  exact h
theorem wp_pushX {α : Type} {k : Nat} {c : α → List Value} {t : TypeId} {op : Oper} {a : Go.Act} {w : World} {K : Go.Act → World → Prop} {Q : Exit → Go.Act → World → Prop} (ts tb : Operand) (tl : TypeId) (by_ : Nat) (z : Value)
    (ho : op.op = .call { callee := .builtin .append, args := #[ts, tb], argTypes := #[tl, tl] }) (hu : Tryz.prog.underlying tl = some (.slice t))
    (hinfo : (Tryz.prog.info? t).map (fun i => (i.zero, i.size, i.bytes)) = some (some z, k, by_)) (hzs : z.cells.size = k) (hk : 0 < k) (hby : by_ ≤ 1000) (hc : ∀ x, (c x).length = k) (x : α) (hone : ∀ u ∈ c x, u.oneCell' = true) (v : Value) (X : List α) (base : Nat)
    (hs : a.eval ts = v) (hown : OwnX k c t w base v X) (H : Nat) (hx : a.eval tb = .slice (some ⟨H, 0, none⟩) 1 1) (hb : Blk w H t (c x).toArray) (hX : X.length ≤ 2000) (hbs : base ≤ w.heap.size)
    (h : ∀ v' w', OwnX k c t w' base v' (X ++ [x]) → w.grownBy w' v.ownBlock → (v'.ownBlock = v.ownBlock ∨ v'.ownBlock = some w.heap.size) → K (a.put op.dst v') w') : op.wp Tryz.prog a w K Q := by
  obtain ⟨i0, hi0, hz0, hz1, hz2⟩ := info_parts hinfo
  have hbytes : (X.length + 1) * by_ ≤ 140737488355328 := by
    have : (X.length + 1) * by_ ≤ 2001 * 1000 := Nat.mul_le_mul (by omega) hby
    omega
  refine wp_append_lies w ts tb tl ho base t i0 z k by_ hu hi0 hz0 hz1 hz2 hzs hk v X.length (X.flatMap c) hs hown ⟨H, 0, none⟩ 1 1 (c x) hx (by rw [hc x, Nat.one_mul]) (World.news_of_block hb) hone (by omega) (by unfold maxLen; omega) hbytes hbs w.heap.size rfl ?_
  intro g cap w' h1 h2 h3 _
  refine h _ w' ?_ h2 (h3.imp (fun e => e.symm) (fun e => by rw [← e]; rfl))
  unfold OwnX
  rw [List.length_append, List.flatMap_append, List.flatMap_cons, List.flatMap_nil, List.append_nil]
  exact h1
theorem bld_node (a b : Int) (M : Nat → Int) (h : Bool) (W : World) : (Instr.build 101 #[(0, .int .i64 a), (1, .int .i64 b), (2, .agg (lM M).toArray), (3, .bool h)]).run Tryz.prog W = .ok (.agg (cNd ⟨a, b, M, h⟩).toArray) W := by kernel_rfl
theorem bld_nodeF (a b : Int) (M : Nat → Int) (h : Bool) (W : World) : (Instr.build 56 #[(0, .int .i64 a), (1, .int .i64 b), (2, .agg (lM M).toArray), (3, .bool h)]).run Tryz.prog W = .ok (.agg (cNd ⟨a, b, M, h⟩).toArray) W := by kernel_rfl
theorem bs_nodeF (n : Nd) (W : World) : (Instr.buildSlice 50 1 #[(0, .agg (cNd n).toArray)]).run Tryz.prog W = .ok (.slice (some ⟨W.heap.size, 0, none⟩) 1 1) (W.alloc (.cells (cNd n).toArray 56)) := by kernel_rfl
set_option maxHeartbeats 4000000 in
set_option maxRecDepth 100000 in
theorem lOf_any (a : Option Addr) (n cap : Nat) (l : List Nd) (w : World) (row : NRow w a n l) (hn : n ≤ 1000) :
    Calls Tryz.prog 46 #[.slice a n cap] w fun e w' => ∃ v, e = .returned v ∧ OwnX 15 cNd 101 w' w.heap.size v l ∧ Below w.heap.size w w' := by
  have hbig := row.2.1
  have HL := Lib.hid row.1
  have HRow : Hid (∀ u, Below w.heap.size w u → NRow u a n l) := Lib.hid (fun u q => row.keep q)
  have HIb : Hid (∀ b off, a = some ⟨b, off, none⟩ → n = 0 ∨ b < w.heap.size) := Lib.hid (fun b off e => by
    rcases row.2.2 with c | ⟨b', off', e', hb', _⟩
    · exact Or.inl c
    · rw [e] at e'
      injection e' with e'
      injection e' with e1
      rw [e1]
      exact Or.inr hb')
  clear row
  go_enter Tryz.func46, Tryz.ntmps46
  go_wp2
  go_loopw [3, 4] (fun v3 i wr => ∃ j : Nat, j ≤ n ∧ i = .int .i64 j ∧ OwnX 15 cNd 101 wr w.heap.size v3 (l.take j) ∧ Below w.heap.size w wr) (fun _ i _ => n - (ivl i).toNat)
  case atStart => exact ⟨0, by omega, rfl, OwnX.nil _ _ _ _ _, Below.refl _ _⟩
  case round =>
    obtain ⟨j, hj, rfl, ho, hb⟩ := hrel
    have HO := Lib.hid ho
    have HB := Lib.hid hb
    have hrw := HRow.out wr hb
    have hsz : w.heap.size ≤ wr.heap.size := hb.size
    have hol := HO.out.lt
    clear ho hb
    by_cases hlt : j < n
    · obtain ⟨b, off, nd, rfl, hbl, hx, hr⟩ := hrw.at_ hlt
      have hbw : b < w.heap.size := (HIb.out b off rfl).resolve_left (by omega)
      have HSt : Hid (l.take (j + 1) = l.take j ++ [nd]) := Lib.hid (by rw [List.take_add_one, hx]; rfl)
      have HBd : Hid (∀ W, (Instr.build 101 #[(0, .int .i64 nd.id), (1, .int .i64 nd.par), (2, .agg (lM nd.pl).toArray), (3, .bool nd.hid)]).run Tryz.prog W = .ok (.agg (cNd nd).toArray) W) := Lib.hid (bld_node nd.id nd.par nd.pl nd.hid)
      have HBs : Hid (∀ W, (Instr.buildSlice 104 1 #[(0, .agg (cNd nd).toArray)]).run Tryz.prog W = .ok (.slice (some ⟨W.heap.size, 0, none⟩) 1 1) (W.alloc (.cells (cNd nd).toArray 101))) := Lib.hid (bs_node nd)
      have HMX := Lib.hid (mx_any nd.pl)
      have HSu : Hid (∀ u : World, u.heap[b]? = wr.heap[b]? → u.cell? ⟨b, off + j * 15, none⟩ = some (.int .i64 nd.id) ∧ u.cell? ⟨b, off + j * 15 + 1, none⟩ = some (.int .i64 nd.par) ∧ u.cell? ⟨b, off + j * 15 + 14, none⟩ = some (.bool nd.hid) ∧ u.rangeAt b (off + j * 15 + 2) (lM nd.pl)) := Lib.hid (fun u e => by
        have q := range_same hr e
        exact ⟨q 0 _ rfl, q 1 _ rfl, q 14 _ rfl, mat_at q⟩)
      have hlj : (l.take j).length ≤ 2000 := by rw [List.length_take]; omega
      obtain ⟨XM, hXM⟩ : ∃ XM, XM = cNd nd := ⟨_, rfl⟩
      obtain ⟨MM, hMM⟩ : ∃ MM, MM = lM nd.pl := ⟨_, rfl⟩
      rw [← hXM] at HBd HBs
      rw [← hMM] at HBd HMX HSu
      obtain ⟨x0, hx0⟩ : ∃ x0, x0 = nd.id := ⟨_, rfl⟩
      obtain ⟨x1, hx1⟩ : ∃ x1, x1 = nd.par := ⟨_, rfl⟩
      obtain ⟨x2, hx2⟩ : ∃ x2, x2 = nd.hid := ⟨_, rfl⟩
      rw [← hx0, ← hx1, ← hx2] at HBd HSu
      have HXe := Lib.hid hXM
      have hbd := HBd.out
      have j0 : (0 : Int) ≤ (j : Int) := by omega
      have j1 : (j : Int) < (n : Int) := by omega
      have hal : Below wr.heap.size wr (wr.drew.alloc (.cells XM.toArray 101)) := bthen (below_drew9f wr) (alloc_below _ _)
      have SA := Lib.hid (HSu.out wr.drew rfl)
      have SB := Lib.hid (HSu.out _ (hal.block b hbl))
      clear hrw hx hr hXM hMM hx0 hx1 hx2 hlt
      go_wp2
      refine wp_region_held_drew (S := fun w' => w'.cell? ⟨b, off + j * 15, none⟩ = some (.int .i64 x0) ∧ w'.cell? ⟨b, off + j * 15 + 1, none⟩ = some (.int .i64 x1) ∧ w'.cell? ⟨b, off + j * 15 + 14, none⟩ = some (.bool x2) ∧ w'.rangeAt b (off + j * 15 + 2) MM) (by kernel_rfl) (SA.out) (fun hHeld => ?_)
      refine tk 0 hHeld ?_
      refine tk 1 hHeld ?_
      refine tk 2 hHeld ?_
      refine tk 3 hHeld ?_
      refine tk 4 hHeld ?_
      refine tk 5 hHeld ?_
      refine tk 6 hHeld ?_
      refine tk 7 hHeld ?_
      refine tk 8 hHeld ?_
      refine tk 9 hHeld ?_
      refine tk 10 hHeld ?_
      refine tk 11 hHeld ?_
      refine tk 12 hHeld ?_
      refine tk 13 hHeld ?_
      refine tk 14 hHeld ?_
      refine tkl 15 rfl (yieldsIf_load_mid (by rfl) _ _ rfl _ _ rfl _ _ (fun _ h => h.2.2.2) Tryz.underlying37 rfl HMX.out.size) hHeld ?_
      refine tk 16 hHeld ?_
      refine tk 17 hHeld ?_
      refine tk 18 hHeld ?_
      refine tk 19 hHeld ?_
      refine tk 20 hHeld ?_
      refine wpAnyH_take (i := 21) (v := .agg XM.toArray) rfl (by kernel_rfl) (by kernel_rfl) (by kernel_rfl) (fun _ _ _ h => h) (yieldsIf_bld4 (by rfl) 101 _ _ _ _ rfl (.int .i64 x0) (.int .i64 x1) (.agg MM.toArray) (.bool x2) (.agg XM.toArray) rfl rfl rfl rfl hbd) hHeld ?_
      simp only [Act.put, List.getElem_toArray, List.getElem_cons_zero, List.getElem_cons_succ, List.setIfInBounds_toArray, List.set_cons_zero, List.set_cons_succ]
      refine rd 22 (fun K hK => ?_)
      rw [if_pos (by rfl)]
      refine wp_bs1 104 101 (.tmp 32) rfl XM rfl HBs.out ?_
      refine hK.out _ _ SB.out (fun hHeld => ?_)
      clear hK K
      refine rd 23 (fun K hK => ?_)
      rw [if_pos (by rfl)]
      refine wp_pushX (.tmp 11) (.tmp 33) 104 120 (.agg (cNd default).toArray) rfl Tryz.underlying104 zN_info rfl (by decide) (by decide) cNd_len nd (cNd_one nd) u3 (l.take j) w.heap.size rfl (HO.out.keep hal) wr.heap.size rfl (by rw [← HXe.out]; exact Blk.new wr.drew _ _) hlj (Nat.le_trans hsz hal.size) ?_
      intro v' W2 k1 k2 k3
      have HE : Hid (OwnX 15 cNd 101 W2 w.heap.size v' (l.take (j + 1)) ∧ Below w.heap.size w W2) := Lib.hid (by
        refine ⟨by rw [HSt.out]; exact k1, ?_⟩
        have hb1 := bthen HB.out hal
        exact ⟨k2.os.trans hb1.os, k2.tape.trans hb1.tape, k2.output.trans hb1.output, Nat.le_trans hb1.size k2.size, fun q hq => (k2.block q (Nat.lt_of_lt_of_le hq hb1.size) (fun e => by have := (hol _ e.symm).1; omega)).trans (hb1.block q hq)⟩)
      have e2 : W2.heap[b]? = wr.heap[b]? := (HE.out.2.block b hbw).trans (HB.out.block b hbw).symm
      have SE := Lib.hid (HSu.out W2 e2)
      clear k1 k2 k3 e2
      refine hK.out _ _ SE.out (fun hHeld => ?_)
      clear hK K
      refine tk 24 hHeld ?_
      refine wpAnyH_done (by kernel_rfl) ?_ _
      go_wp2
      go_roundw
      case rel => exact ⟨j + 1, by omega, by go_num, HE.out⟩
      case measure => simp [ivl] <;> omega
    · obtain rfl : j = n := by omega
      have e0 : l.take j = l := List.take_of_length_le (by rw [HL.out]; exact Nat.le_refl _)
      rw [e0] at HO
      have j1 : ¬ (j : Int) < (j : Int) := by omega
      clear e0 hrw
      go_wp2
      go_ret
      exact ⟨_, rfl, HO.out, HB.out⟩
end Go.Proofs.YtkondkajpmafkaaGreat
