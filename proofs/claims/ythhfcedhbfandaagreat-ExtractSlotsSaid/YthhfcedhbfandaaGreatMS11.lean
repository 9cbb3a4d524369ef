/-
  2 texts in one file, each with its own heading.
-/
import Derived.Test.YthhfcedhbfandaaGreatMS10
import Derived.Deep.AppendLies
/-
  What the landed table's read answers.
-/
namespace Go.Proofs.YthhfcedhbfandaaGreat
open Go.RowKit

def rdL (X : Nat → TR) (row : Nat) : List Value := PL 0 ((X 1).getD row d0).2.2.1 ((X 2).getD row d0).2.2.2.1 ((X 3).getD row d0).2.2.2.2.1 ((X 4).getD row d0).2.2.2.2.2.1 ((X 5).getD row d0).2.2.2.2.2.2.1 ((X 6).getD row d0).2.2.2.2.2.2.2.1 ((X 7).getD row d0).2.2.2.2.2.2.2.2
set_option maxHeartbeats 8000000 in
set_option maxRecDepth 100000 in
theorem read_any {g : Nat} {s : Int} {v : Nat → Value} {X : Nat → TR} {w : World} (h0 : Tab w g s v X) (hX : ∀ i, i < 8 → (X i).length ≤ 1000) (row : Nat) :
    Calls Tryz.prog 289 #[.pointer (some ⟨g, 1, none⟩), .int .i64 row] w fun e w' => e = .returned (.agg (rdL X row).toArray) ∧ Below w.heap.size w w' := by
  have HX := Lib.hid hX
  obtain ⟨M, hM⟩ : ∃ M, M = ((X 1).getD row d0).2.2.1 := ⟨_, rfl⟩
  obtain ⟨m, hm⟩ : ∃ m, m = ((X 2).getD row d0).2.2.2.1 := ⟨_, rfl⟩
  obtain ⟨B, hB⟩ : ∃ B, B = ((X 3).getD row d0).2.2.2.2.1 := ⟨_, rfl⟩
  obtain ⟨p, hp⟩ : ∃ p, p = ((X 4).getD row d0).2.2.2.2.2.1 := ⟨_, rfl⟩
  obtain ⟨a, ha⟩ : ∃ a, a = ((X 5).getD row d0).2.2.2.2.2.2.1 := ⟨_, rfl⟩
  obtain ⟨c, hc⟩ : ∃ c, c = ((X 6).getD row d0).2.2.2.2.2.2.2.1 := ⟨_, rfl⟩
  obtain ⟨l, hl⟩ : ∃ l, l = ((X 7).getD row d0).2.2.2.2.2.2.2.2 := ⟨_, rfl⟩
  have HE : Hid (rdL X row = PL 0 M m B p a c l) := Lib.hid (by unfold rdL; rw [hM, hm, hB, hp, ha, hc, hl])
  have HSz := Lib.hid (size_parts 0 M m B p a c l)
  have HSz' : Hid ((Tryz.prog.info? 52).map (·.size) = some (PL 0 M m B p a c l).toArray.size) := Lib.hid (size_parts 0 M m B p a c l)
  have HO := Lib.hid (PL_one 0 M m B p a c l)
  have HL : Hid ((PL 0 M m B p a c l).length = 24) := Lib.hid rfl
  have A1 : Hid (∀ u, Below w.heap.size w u → Calls Tryz.prog 309 #[v 1, .int .i64 row] u fun e w' => e = .returned (.agg #[.int .i64 (M 0), .int .i64 (M 1), .int .i64 (M 2), .int .i64 (M 3), .int .i64 (M 4), .int .i64 (M 5), .int .i64 (M 6), .int .i64 (M 7), .int .i64 (M 8), .int .i64 (M 9), .int .i64 (M 10), .int .i64 (M 11)]) ∧ Below u.heap.size u w') := Lib.hid (fun u k => (at_mat (fun x => x.2.2.1) (v 1) (X 1) row u ((h0.keep k).own 1 (by omega)) (hX 1 (by omega)) (fun _ => rfl)).mono (fun _ _ k => ⟨by rw [k.1, hM], k.2⟩))
  have A2 : Hid (∀ u, Below w.heap.size w u → Calls Tryz.prog 310 #[v 2, .int .i64 row] u fun e w' => e = .returned (.int .i64 m) ∧ Below u.heap.size u w') := Lib.hid (fun u k => (at_int (fun x => x.2.2.2.1) (v 2) (X 2) row u ((h0.keep k).own 2 (by omega)) (hX 2 (by omega)) rfl).mono (fun _ _ k => ⟨by rw [k.1, hm], k.2 ▸ Below.refl _ _⟩))
  have A3 : Hid (∀ u, Below w.heap.size w u → Calls Tryz.prog 311 #[v 3, .int .i64 row] u fun e w' => e = .returned (.agg #[.int .i64 (B 0), .int .i64 (B 1), .int .i64 (B 2), .int .i64 (B 3), .int .i64 (B 4), .int .i64 (B 5)]) ∧ Below u.heap.size u w') := Lib.hid (fun u k => (at_box (fun x => x.2.2.2.2.1) (v 3) (X 3) row u ((h0.keep k).own 3 (by omega)) (hX 3 (by omega)) (fun _ => rfl)).mono (fun _ _ k => ⟨by rw [k.1, hB], k.2⟩))
  have A4 : Hid (∀ u, Below w.heap.size w u → Calls Tryz.prog 310 #[v 4, .int .i64 row] u fun e w' => e = .returned (.int .i64 p) ∧ Below u.heap.size u w') := Lib.hid (fun u k => (at_int (fun x => x.2.2.2.2.2.1) (v 4) (X 4) row u ((h0.keep k).own 4 (by omega)) (hX 4 (by omega)) rfl).mono (fun _ _ k => ⟨by rw [k.1, hp], k.2 ▸ Below.refl _ _⟩))
  have A5 : Hid (∀ u, Below w.heap.size w u → Calls Tryz.prog 310 #[v 5, .int .i64 row] u fun e w' => e = .returned (.int .i64 a) ∧ Below u.heap.size u w') := Lib.hid (fun u k => (at_int (fun x => x.2.2.2.2.2.2.1) (v 5) (X 5) row u ((h0.keep k).own 5 (by omega)) (hX 5 (by omega)) rfl).mono (fun _ _ k => ⟨by rw [k.1, ha], k.2 ▸ Below.refl _ _⟩))
  have A6 : Hid (∀ u, Below w.heap.size w u → Calls Tryz.prog 312 #[v 6, .int .i64 row] u fun e w' => e = .returned (.bool c) ∧ Below u.heap.size u w') := Lib.hid (fun u k => (at_bool (fun x => x.2.2.2.2.2.2.2.1) (v 6) (X 6) row u ((h0.keep k).own 6 (by omega)) (hX 6 (by omega)) rfl).mono (fun _ _ k => ⟨by rw [k.1, hc], k.2 ▸ Below.refl _ _⟩))
  have A7 : Hid (∀ u, Below w.heap.size w u → Calls Tryz.prog 310 #[v 7, .int .i64 row] u fun e w' => e = .returned (.int .i64 l) ∧ Below u.heap.size u w') := Lib.hid (fun u k => (at_int (fun x => x.2.2.2.2.2.2.2.2) (v 7) (X 7) row u ((h0.keep k).own 7 (by omega)) (hX 7 (by omega)) rfl).mono (fun _ _ k => ⟨by rw [k.1, hl], k.2 ▸ Below.refl _ _⟩))
  have CC : Hid (∀ u, Below w.heap.size w u → u.cell? ⟨g, 2, none⟩ = some (v 1) ∧ u.cell? ⟨g, 3, none⟩ = some (v 2) ∧ u.cell? ⟨g, 4, none⟩ = some (v 3) ∧ u.cell? ⟨g, 5, none⟩ = some (v 4) ∧ u.cell? ⟨g, 6, none⟩ = some (v 5) ∧ u.cell? ⟨g, 7, none⟩ = some (v 6) ∧ u.cell? ⟨g, 8, none⟩ = some (v 7)) := Lib.hid (fun u k => ⟨((h0.keep k).cell (j := 1) (by omega)).1, ((h0.keep k).cell (j := 2) (by omega)).1, ((h0.keep k).cell (j := 3) (by omega)).1, ((h0.keep k).cell (j := 4) (by omega)).1, ((h0.keep k).cell (j := 5) (by omega)).1, ((h0.keep k).cell (j := 6) (by omega)).1, ((h0.keep k).cell (j := 7) (by omega)).1⟩)
  have hg := h0.blk.lt
  rw [HE.out]
  obtain ⟨u1, hu1⟩ : ∃ u1, u1 = v 1 := ⟨_, rfl⟩
  rw [← hu1] at A1 CC
  clear hu1
  obtain ⟨u2, hu2⟩ : ∃ u2, u2 = v 2 := ⟨_, rfl⟩
  rw [← hu2] at A2 CC
  clear hu2
  obtain ⟨u3, hu3⟩ : ∃ u3, u3 = v 3 := ⟨_, rfl⟩
  rw [← hu3] at A3 CC
  clear hu3
  obtain ⟨u4, hu4⟩ : ∃ u4, u4 = v 4 := ⟨_, rfl⟩
  rw [← hu4] at A4 CC
  clear hu4
  obtain ⟨u5, hu5⟩ : ∃ u5, u5 = v 5 := ⟨_, rfl⟩
  rw [← hu5] at A5 CC
  clear hu5
  obtain ⟨u6, hu6⟩ : ∃ u6, u6 = v 6 := ⟨_, rfl⟩
  rw [← hu6] at A6 CC
  clear hu6
  obtain ⟨u7, hu7⟩ : ∃ u7, u7 = v 7 := ⟨_, rfl⟩
  rw [← hu7] at A7 CC
  clear hu7
  clear hM hm hB hp ha hc hl h0 hX HE HX
  have KR := Lib.hid (Blk.new w 52 Z24.toArray)
  have HB : Hid (Below w.heap.size w (w.alloc (.cells Z24.toArray 52))) := Lib.hid (alloc_below _ _)
  go_enter Tryz.func289, Tryz.ntmps289
  go_upto_region 1 with fail
  refine fin (fun W => Blk W w.heap.size 52 Z24.toArray ∧ Below w.heap.size w W) ⟨KR.out, HB.out⟩ ?_
  rintro W ⟨kr, hb⟩
  replace KR := Lib.hid (Blk.drew kr)
  replace HB := Lib.hid (bdrw hb)
  clear kr hb
  refine wp_region_held_drew (S := fun w' => w'.cell? ⟨g, 2, none⟩ = some u1 ∧ w'.cell? ⟨g, 3, none⟩ = some u2 ∧ w'.cell? ⟨g, 4, none⟩ = some u3 ∧ w'.cell? ⟨g, 5, none⟩ = some u4 ∧ w'.cell? ⟨g, 6, none⟩ = some u5 ∧ w'.cell? ⟨g, 7, none⟩ = some u6 ∧ w'.cell? ⟨g, 8, none⟩ = some u7) (by kernel_rfl) (CC.out _ HB.out) (fun hHeld => ?_)
  refine tk 0 hHeld ?_
  refine tk 1 hHeld ?_
  refine tk 2 hHeld ?_
  refine tk 3 hHeld ?_
  refine tk 4 hHeld ?_
  refine tk 6 hHeld ?_
  refine tk 7 hHeld ?_
  refine tk 8 hHeld ?_
  refine tk 9 hHeld ?_
  refine tk 10 hHeld ?_
  refine tk 12 hHeld ?_
  refine tk 13 hHeld ?_
  refine tk 14 hHeld ?_
  refine tk 15 hHeld ?_
  refine tk 16 hHeld ?_
  refine tk 18 hHeld ?_
  refine tk 19 hHeld ?_
  refine tk 20 hHeld ?_
  refine tk 21 hHeld ?_
  refine tk 22 hHeld ?_
  refine tk 24 hHeld ?_
  refine tk 25 hHeld ?_
  refine tk 26 hHeld ?_
  refine tk 27 hHeld ?_
  refine tk 28 hHeld ?_
  refine tk 30 hHeld ?_
  refine tk 31 hHeld ?_
  refine tk 32 hHeld ?_
  refine tk 33 hHeld ?_
  refine tk 34 hHeld ?_
  refine tk 36 hHeld ?_
  refine tk 37 hHeld ?_
  refine tk 38 hHeld ?_
  refine tk 39 hHeld ?_
  refine tk 40 hHeld ?_
  refine rd 5 (fun K hK => ?_)
  go_simp
  go_at_call 309
  refine (A1.out _ HB.out).mono ?_
  rintro e w1 ⟨rfl, b1⟩
  go_wp2_with fail
  refine hK.out _ _ (CC.out _ (bthen HB.out b1)) (fun hHeld => ?_)
  clear hK K
  replace KR := Lib.hid (Blk.keep KR.out b1)
  replace HB := Lib.hid (bthen HB.out b1)
  clear b1 A1
  refine rd 11 (fun K hK => ?_)
  go_simp
  go_at_call 310
  refine (A2.out _ HB.out).mono ?_
  rintro e w2 ⟨rfl, b1⟩
  go_wp2_with fail
  refine hK.out _ _ (CC.out _ (bthen HB.out b1)) (fun hHeld => ?_)
  clear hK K
  replace KR := Lib.hid (Blk.keep KR.out b1)
  replace HB := Lib.hid (bthen HB.out b1)
  clear b1 A2
  refine rd 17 (fun K hK => ?_)
  go_simp
  go_at_call 311
  refine (A3.out _ HB.out).mono ?_
  rintro e w3 ⟨rfl, b1⟩
  go_wp2_with fail
  refine hK.out _ _ (CC.out _ (bthen HB.out b1)) (fun hHeld => ?_)
  clear hK K
  replace KR := Lib.hid (Blk.keep KR.out b1)
  replace HB := Lib.hid (bthen HB.out b1)
  clear b1 A3
  refine rd 23 (fun K hK => ?_)
  go_simp
  go_at_call 310
  refine (A4.out _ HB.out).mono ?_
  rintro e w4 ⟨rfl, b1⟩
  go_wp2_with fail
  refine hK.out _ _ (CC.out _ (bthen HB.out b1)) (fun hHeld => ?_)
  clear hK K
  replace KR := Lib.hid (Blk.keep KR.out b1)
  replace HB := Lib.hid (bthen HB.out b1)
  clear b1 A4
  refine rd 29 (fun K hK => ?_)
  go_simp
  go_at_call 310
  refine (A5.out _ HB.out).mono ?_
  rintro e w5 ⟨rfl, b1⟩
  go_wp2_with fail
  refine hK.out _ _ (CC.out _ (bthen HB.out b1)) (fun hHeld => ?_)
  clear hK K
  replace KR := Lib.hid (Blk.keep KR.out b1)
  replace HB := Lib.hid (bthen HB.out b1)
  clear b1 A5
  refine rd 35 (fun K hK => ?_)
  go_simp
  go_at_call 312
  refine (A6.out _ HB.out).mono ?_
  rintro e w6 ⟨rfl, b1⟩
  go_wp2_with fail
  refine hK.out _ _ (CC.out _ (bthen HB.out b1)) (fun hHeld => ?_)
  clear hK K
  replace KR := Lib.hid (Blk.keep KR.out b1)
  replace HB := Lib.hid (bthen HB.out b1)
  clear b1 A6
  refine rd 41 (fun K hK => ?_)
  go_simp
  go_at_call 310
  refine (A7.out _ HB.out).mono ?_
  rintro e w7 ⟨rfl, b1⟩
  go_wp2_with fail
  refine hK.out _ _ (CC.out _ (bthen HB.out b1)) (fun hHeld => ?_)
  clear hK K
  replace KR := Lib.hid (Blk.keep KR.out b1)
  replace HB := Lib.hid (bthen HB.out b1)
  clear b1 A7
  refine wpAnyH_take (i := 42) (v := .agg (PL 0 M m B p a c l).toArray) rfl (by kernel_rfl) (by kernel_rfl) (by kernel_rfl) (fun _ _ _ h => h) (Or.inl ⟨by rfl, fun _ _ => by kernel_rfl⟩) hHeld ?_
  simp only [Act.put, List.getElem_toArray, List.getElem_cons_zero, List.getElem_cons_succ, List.setIfInBounds_toArray, List.set_cons_zero, List.set_cons_succ]
  obtain ⟨Xp, hXp⟩ : ∃ Xp, Xp = PL 0 M m B p a c l := ⟨_, rfl⟩
  rw [← hXp] at HSz HSz' HO HL
  rw [← hXp]
  have HXe := Lib.hid hXp
  clear hXp
  have HS5 : Hid (Blk (w7.setCells w.heap.size 0 Xp) w.heap.size 52 Xp.toArray) := Lib.hid (blk_over KR.out HL.out)
  refine rd 43 (fun K hK => ?_)
  rw [if_pos (by rfl)]
  refine wp_store_mid 52 _ _ rfl w.heap.size 0 Xp.toArray rfl rfl (blk_there KR.out (by rw [List.size_toArray, HL.out]; exact Nat.le_refl 24)) HSz'.out HO.out ?_
  refine hK.out _ _ (CC.out _ (below_setCells _ HB.out (Nat.le_refl _))) (fun hHeld => ?_)
  clear hK K
  refine wpAnyH_done (by kernel_rfl) ?_ _
  clear hHeld
  go_wp2_with fail
  refine fin (fun W => Blk W w.heap.size 52 Xp.toArray ∧ Below w.heap.size w W) ⟨HS5.out, below_setCells _ HB.out (Nat.le_refl _)⟩ ?_
  rintro W ⟨kr, hb⟩
  have hl := run_loadVar_mid W w.heap.size 0 52 Xp _ (blk_whole kr) Tryz.underlying52 rfl HSz.out
  exact bodyPost_ret (v := .agg Xp.toArray) (results_cell Tryz.results289 rfl hl) rfl ⟨by rw [HXe.out], hb⟩

section
variable {ops : Array Oper} {Q : Exit → Go.Act → World → Prop} {md : Region.Mode} {S : World → Prop}
theorem wpOp_run {i : Nat} {o : Oper} {v : Value} {a : Go.Act} {w w' : World} (hi : ops[i]? = some o) (hw : Region.wanted o (yielded ops a.tmps) = true) (hv : (execOp a.eval o).run Tryz.prog w = .ok (.value v) w') {K : Go.Act → World → Prop} (h : K (a.put o.dst v) w') : wpOp Tryz.prog ops Q i K a w := by
  unfold wpOp
  simp only [hi, hw, if_true, Oper.wp, hv, Oper.upon]
  exact .inl h
theorem sets_comm (L : Array Bool) (i j : Nat) : (L.setIfInBounds j true).setIfInBounds i true = (L.setIfInBounds i true).setIfInBounds j true := by
  by_cases c : i = j
  · subst c; rfl
  · exact Array.setIfInBounds_comm _ _ (fun e => c e.symm)
theorem wpAnyH_pair {i j : Nat} {oi oj : Oper} {v u : Value} {fuel : Nat} {listed : Array Bool} {a : Go.Act} {w w' : World} (hi : ops[i]? = some oi) (hj : ops[j]? = some oj)
    (hr : Region.ready md ops listed = [i, j]) (hri : Region.ready md ops (listed.setIfInBounds i true) = [j]) (hrj : Region.ready md ops (listed.setIfInBounds j true) = [i])
    (wi : Region.wanted oi (yielded ops a.tmps) = true) (wj : Region.wanted oj (yielded ops a.tmps) = true) (wi' : Region.wanted oi (yielded ops (a.put oj.dst u).tmps) = true) (wj' : Region.wanted oj (yielded ops (a.put oi.dst v).tmps) = true)
    (v1 : (execOp a.eval oi).run Tryz.prog w = .ok (.value v) w) (u1 : (execOp (a.put oi.dst v).eval oj).run Tryz.prog w = .ok (.value u) w')
    (u2 : (execOp a.eval oj).run Tryz.prog w = .ok (.value u) w') (v2 : (execOp (a.put oj.dst u).eval oi).run Tryz.prog w' = .ok (.value v) w')
    (hc : (a.put oj.dst u).put oi.dst v = (a.put oi.dst v).put oj.dst u) (hS : S w) (hS' : S w')
    (h : wpAnyH Tryz.prog md ops Q S fuel ((listed.setIfInBounds i true).setIfInBounds j true) ((a.put oi.dst v).put oj.dst u) w') : wpAnyH Tryz.prog md ops Q S (fuel + 1 + 1) listed a w := by
  refine wpAnyH_all hr (by simp) (fun q hq => ?_)
  simp only [List.mem_cons, List.not_mem_nil, or_false] at hq
  rcases hq with rfl | rfl
  · refine wpOp_run hi wi v1 ⟨hS, wpAnyH_all hri (by simp) (fun q hq => ?_)⟩
    simp only [List.mem_cons, List.not_mem_nil, or_false] at hq
    subst hq
    exact wpOp_run hj wj' u1 ⟨hS', h⟩
  · refine wpOp_run hj wj u2 ⟨hS', wpAnyH_all hrj (by simp) (fun q hq => ?_)⟩
    simp only [List.mem_cons, List.not_mem_nil, or_false] at hq
    subst hq
    refine wpOp_run hi wi' v2 ⟨hS', ?_⟩
    rw [hc, sets_comm]
    exact h
end
theorem exec_bs {a : Go.Act} {op : Oper} {w w' : World} {t : TypeId} {x : Operand} {val u : Value} (ho : op.op = .buildSlice t 1 #[(0, x)]) (hx : a.eval x = val) (hrun : (Instr.buildSlice t 1 #[(0, val)]).run Tryz.prog w = .ok u w') : (execOp a.eval op).run Tryz.prog w = .ok (.value u) w' := by
  unfold execOp
  simp only [ho]
  simp [hx, hrun]
theorem exec_cell {a : Go.Act} {op : Oper} {w : World} {t e : TypeId} {x : Operand} {ad : Addr} {v : Value} (ho : op.op = .load t x) (hx : a.eval x = .pointer (some ad)) (hu : Tryz.prog.underlying t = some (.slice e)) (hc : w.cell? ad = some v) : (execOp a.eval op).run Tryz.prog w = .ok (.value v) w := by
  have hl : (loadVar t ad).run Tryz.prog w = .ok v w := by
    simp [loadVar, isAgg, run_underlying hu, hc]
  unfold execOp
  simp only [ho, hx, Instr.loadAt, Instr.sureAddr, Sem.run_bind, Sem.run_pure, Result.andThen_ok, hl]

theorem wp_appC {op : Oper} {a : Go.Act} {w : World} {K : Go.Act → World → Prop} {Q : Exit → Go.Act → World → Prop} (ts tb : Operand) (t e : TypeId) (k by_ : Nat) (z : Value) (c : Int × PT → List Value)
    (ho : op.op = .call { callee := .builtin .append, args := #[ts, tb], argTypes := #[t, t] }) (hu : Tryz.prog.underlying t = some (.slice e))
    (hinfo : (Tryz.prog.info? e).map (fun i => (i.zero, i.size, i.bytes)) = some (some z, k, by_)) (hzs : z.cells.size = k) (hk : 0 < k) (hby : by_ ≤ 1000) (hc : ∀ x, (c x).length = k)
    (v : Value) (X : TR) (hs : a.eval ts = v) (hcol : ColX w e k c v X) (hX : X.length ≤ 2000) (y : Int × PT) (Y : List Value) (hY : Y = c y) (hY1 : ∀ u ∈ Y, u.oneCell' = true) (H : Nat) (hb : Blk w H e Y.toArray) (hx : a.eval tb = .slice (some ⟨H, 0, none⟩) 1 1)
    (h : ∀ g cap w', ColX w' e k c (.slice (some ⟨g, 0, none⟩) (X.length + 1) cap) (X ++ [y]) → w.grownBy w' v.ownBlock → (v.ownBlock = some g ∨ w.heap.size ≤ g) → K (a.put op.dst (.slice (some ⟨g, 0, none⟩) (X.length + 1) cap)) w') : op.wp Tryz.prog a w K Q := by
  obtain ⟨i0, hi0, hz0, hz1, hz2⟩ := info_parts hinfo
  refine wp_append_lies w ts tb t ho 0 e i0 z k by_ hu hi0 hz0 hz1 hz2 hzs hk v X.length (X.flatMap c) hs hcol ⟨H, 0, none⟩ 1 1 Y hx (by rw [hY, hc, Nat.one_mul]) (World.news_of_block hb) hY1 (by omega) (by unfold maxLen; omega) ?_ (Nat.zero_le _) w.heap.size rfl ?_
  · have : (X.length + 1) * by_ ≤ 2001 * 1000 := Nat.mul_le_mul (by omega) hby
    omega
  · intro g cap w' h1 h2 h3 _
    refine h g cap w' ?_ h2 (h3.imp id (fun e => by omega))
    show w'.ownsRow 0 e k _ (X ++ [y]).length ((X ++ [y]).flatMap c)
    rw [List.length_append, List.flatMap_append, List.flatMap_singleton, ← hY]
    exact h1

end Go.Proofs.YthhfcedhbfandaaGreat
