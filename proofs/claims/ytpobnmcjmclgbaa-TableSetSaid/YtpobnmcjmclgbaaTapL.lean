/-
  A table as it landed: a row that is added, put, cut, read, in its columns; what Row answers.
-/
import Derived.Test.YtpobnmcjmclgbaaTapK
namespace Go.Proofs.Ytpobnmcjmclgbaa
open Go.RowKit

theorem kinds_mem (s : Int) {k : Nat} (hk : k < 5) : ((k : Int) ∈ kindsL s) ↔ hasN s k = true := by
  unfold kindsL
  rw [List.mem_filter, has_yes (by omega)]
  have : (k : Int) ∈ ([0, 1, 2, 3, 4] : List Int) := by
    obtain rfl | rfl | rfl | rfl | rfl : k = 0 ∨ k = 1 ∨ k = 2 ∨ k = 3 ∨ k = 4 := by omega
    all_goals decide
  simp [this]
theorem hasC_kind (s : Int) {i : Nat} (hi : i < 8) : hasC s i = true ↔ (i = 0 ∨ kC i ∈ kindsL s) := by
  have k0 := kinds_mem s (k := 0) (by omega)
  have k1 := kinds_mem s (k := 1) (by omega)
  have k2 := kinds_mem s (k := 2) (by omega)
  have k3 := kinds_mem s (k := 3) (by omega)
  rcases lt8 hi with rfl | rfl | rfl | rfl | rfl | rfl | rfl | rfl
  · simp [hasC]
  all_goals
    simp only [hasC, kC]
    simp
    first | exact k0.symm | exact k1.symm | exact k2.symm | exact k3.symm
theorem Rs_add (s : Int) (R : TR) (y : Int × PT) {i : Nat} (hi : i < 8) : addKs (kindsL s) (Rs s R) y i = Rs s (R ++ [y]) i := by
  unfold addKs Rs
  by_cases c : hasC s i = true
  · rw [if_pos ((hasC_kind s hi).1 c), if_pos c, if_pos c]
  · rw [if_neg (fun d => c ((hasC_kind s hi).2 d)), if_neg c, if_neg c]
theorem Rs_put (s : Int) (R : TR) (row : Nat) (y : Int × PT) {i : Nat} (h0 : 1 ≤ i) (hi : i < 8) : putTo (Rs s R) row y 8 i = Rs s (R.set row y) i := by
  unfold putTo Rs
  rw [if_pos ⟨h0, hi⟩]
  split
  · rfl
  · simp
theorem Rs_cut (s : Int) (R : TR) (row i : Nat) : cutL (Rs s R i) row = Rs s (cutL R row) i := by
  unfold Rs
  split
  · rfl
  · unfold cutL; rw [if_neg (by simp)]
theorem col0_put {w : World} {v : Value} {R : TR} {row : Nat} (h : Col w 0 v R) (P : PT) : Col w 0 v (R.set row ((R.getD row d0).1, P)) := by
  have e : ∀ R : TR, R.flatMap cId = (R.map Prod.fst).map (fun x => Value.int .i64 x) := fun R => by
    induction R with
    | nil => rfl
    | cons x r ih => rw [List.flatMap_cons, ih]; rfl
  have e2 : (R.set row ((R.getD row d0).1, P)).map Prod.fst = R.map Prod.fst := by
    rw [List.map_set]
    by_cases c : row < R.length
    · have : (R.getD row d0).1 = (R.map Prod.fst)[row]'(by simpa using c) := by simp [List.getD, List.getElem?_eq_getElem c]
      rw [this, List.set_getElem_self]
    · exact List.set_eq_of_length_le (by simpa using Nat.le_of_not_lt c)
  show w.ownsRow 0 _ _ v _ ((R.set row ((R.getD row d0).1, P)).flatMap cId)
  rw [e, e2, ← e, List.length_set]
  exact h
theorem tab_put {w : World} {g : Nat} {s : Int} {v : Nat → Value} {R : TR} {row : Nat} {P : PT} (h : Tab w g s v (putTo (Rs s R) row ((R.getD row d0).1, P) 8)) : Tab w g s v (Rs s (R.set row ((R.getD row d0).1, P))) :=
  ⟨h.blk, fun i hi => by
    by_cases c : i = 0
    · subst c
      exact col0_put (h.own 0 (by omega)) P
    · rw [← Rs_put s R row _ (by omega) hi]
      exact h.own i hi, h.far, h.off⟩
theorem rd_row {s : Int} {R : TR} {row : Nat} (hs : 0 ≤ s ∧ s ≤ 31) (hr : row < R.length) (hf : ∀ x ∈ R, fitsB s x.2 = true) : (rdL (Rs s R) row).set 0 (.int .i64 s) = pl (R.getD row d0).2 := by
  have hm : R.getD row d0 ∈ R := by
    have := getD_at hr
    exact List.mem_of_getElem? this
  have hfit := hf _ hm
  obtain ⟨P, hP⟩ : ∃ P, P = (R.getD row d0).2 := ⟨_, rfl⟩
  rw [← hP] at hfit ⊢
  unfold fitsB at hfit
  rw [Bool.and_eq_true, beq_iff_eq] at hfit
  have hb := right_bare hfit.1
  rw [hfit.2] at hb
  rw [← hb]
  have e1 : s % 32 = s := by omega
  have g : ∀ i, (Rs s R i).getD row d0 = if hasC s i then R.getD row d0 else d0 := fun i => by unfold Rs; split <;> rfl
  unfold rdL
  rw [g, g, g, g, g, g, g]
  show PL s _ _ _ _ _ _ _ = pl (pickT s P)
  unfold pl pickT
  simp only [e1, hP]
  unfold hasC
  cases hasN s 0 <;> cases hasN s 1 <;> cases hasN s 2 <;> cases hasN s 3 <;> rfl
theorem TBl.keep {w w' : World} {g : Nat} {L : Nat → Prop} {s : Int} {R : TR} (h : TBl w g L s R) (hb : Below w.heap.size w w') : TBl w' g L s R := by
  obtain ⟨v, h1, h2⟩ := h
  exact ⟨v, h1.keep hb, h2⟩
theorem build_zero (W : World) : (Instr.build 39 #[]).run Try.prog W = .ok (.agg (pl zT).toArray) W := by kernel_rfl
theorem wpList_bld0 {ops : Array Oper} {rest : List Oper} {op : Oper} {a : Go.Act} {w : World} {Q : Exit → Go.Act → World → Prop} (hgd : op.guard = none) (t : TypeId) (ho : op.op = .build t #[]) (vr : Value)
    (hrun : ∀ W, (Instr.build t #[]).run Try.prog W = .ok vr W)
    (h : wpList Try.prog ops Q rest (a.put op.dst vr) w) : wpList Try.prog ops Q (op :: rest) a w :=
  wpList_plain hgd fun K hK => by
    have h2 := hK _ _ h
    unfold Oper.wp execOp
    simp only [ho]
    simp [hrun]
    exact h2
theorem results_cell3 {fn : Func} {tmps : Array Value} {s r q : Tmp} {t : TypeId} {g : Nat} {v u x : Value} {w : World} (hr : fn.results = #[.tmp q, .cell s t, .tmp r]) (hp : tmps.getD s undef = .pointer (some ⟨g, 0, none⟩)) (hu : tmps.getD r undef = u) (hx : tmps.getD q undef = x) (hl : (loadVar t ⟨g, 0, none⟩).run Try.prog w = .ok v w) : (results fn tmps).run Try.prog w = .ok (.tuple #[x, v, u]) w := by
  unfold results
  rw [hr]
  have hp' : tmps[s]?.getD undef = .pointer (some ⟨g, 0, none⟩) := by simpa using hp
  have hu' : tmps[r]?.getD undef = u := by simpa using hu
  have hx' : tmps[q]?.getD undef = x := by simpa using hx
  simp [hp', hu', hx', hl, asAddr]
theorem pl_zero : pl zT = Z24 := rfl

set_option maxHeartbeats 2000000 in
set_option maxRecDepth 100000 in
theorem row_no {g : Nat} {s : Int} {v : Nat → Value} {X : Nat → TR} {w : World} (h0 : Tab w g s v X) (row : Int) (hb : thB (X 0).length row = false) :
    Calls Try.prog 6 #[.pointer (some ⟨g, 0, none⟩), .int .i64 row] w fun e w' => e = .returned (.tuple #[.int .i64 0, .agg (pl zT).toArray, .bool false]) ∧ Below w.heap.size w w' := by
  have HT := Lib.hid (h0.keep (alloc_below w (.cells Z24.toArray 39)))
  have HB := Lib.hid hb
  have HBd := Lib.hid build_zero
  have HSz := Lib.hid (pl_size zT)
  have HSz' := Lib.hid (pl_size' zT)
  have HO := Lib.hid (pl_one zT)
  have HL : Hid ((pl zT).length = Z24.length) := Lib.hid rfl
  obtain ⟨Xp, hXp⟩ : ∃ Xp, Xp = pl zT := ⟨_, rfl⟩
  rw [← hXp] at HBd HSz HSz' HO HL
  rw [← hXp]
  have K5 := Lib.hid (Blk.new w 39 Z24.toArray)
  have HT5 : Hid ((w.alloc (.cells Z24.toArray 39)).there w.heap.size 0 Xp.toArray.size) := Lib.hid (blk_there K5.out (by rw [List.size_toArray, HL.out]; omega))
  have L5 : Hid (Blk ((w.alloc (.cells Z24.toArray 39)).setCells w.heap.size 0 Xp) w.heap.size 39 Xp.toArray) := Lib.hid (blk_over K5.out HL.out)
  clear hXp hb h0
  go_enter Try.func6, Try.ntmps6
  go_wp2_with fail
  refine (there_any HT.out row HB.out).mono ?_
  rintro e w1 ⟨rfl, rfl⟩
  go_wp2_with (first | refine wpList_bld0 rfl 39 rfl (.agg Xp.toArray) HBd.out ?_ | refine wpList_store_mid rfl 39 (.tmp 5) (.tmp 12) rfl w.heap.size 0 Xp.toArray rfl rfl HT5.out HSz'.out HO.out ?_)
  refine fin (fun W => Blk W w.heap.size 39 Xp.toArray ∧ Below w.heap.size w W) ⟨L5.out, below_setCells _ (alloc_below _ _) (Nat.le_refl _)⟩ ?_
  rintro W ⟨kr, hb⟩
  have hl := run_loadVar_mid W w.heap.size 0 39 Xp _ (blk_whole kr) Try.underlying39 rfl HSz.out
  try simp only [Go.Act.put, List.setIfInBounds_toArray, List.set_cons_zero, List.set_cons_succ]
  exact bodyPost_ret (v := .tuple #[.int .i64 0, .agg Xp.toArray, .bool false]) (results_cell3 Try.results6 rfl rfl rfl hl) rfl ⟨rfl, hb⟩

set_option maxHeartbeats 4000000 in
set_option maxRecDepth 100000 in
theorem row_yes {g : Nat} {s : Int} {v : Nat → Value} {X : Nat → TR} {w : World} (h0 : Tab w g s v X) (hX : ∀ i, i < 8 → (X i).length ≤ 1000) (row : Nat) (hr : row < (X 0).length) (Xp : List Value) (hXp : (rdL X row).set 0 (.int .i64 s) = Xp) (hO : Xp.toArray.all (·.oneCell') = true) :
    Calls Try.prog 6 #[.pointer (some ⟨g, 0, none⟩), .int .i64 row] w fun e w' => e = .returned (.tuple #[.int .i64 ((X 0).getD row d0).1, .agg Xp.toArray, .bool true]) ∧ Below w.heap.size w w' := by
  obtain ⟨gi, cap, cur, hv0, hbk, hcap, hmax, _, _⟩ := (h0.own 0 (by omega)).open_ (by omega)
  have hown := h0.own 0 (by omega)
  rw [hv0] at hown
  have ci := range1 (ColX.range (c := cId) (k := 1) (fun _ => rfl) hown (getD_at hr))
  have hlen : Xp.length = 24 := by rw [← hXp]; rfl
  have HSz : Hid ((Try.prog.info? 39).map (·.size) = some Xp.length) := Lib.hid (by rw [hlen]; exact size_parts 0 zI 0 zI 0 0 false 0)
  have HSz' : Hid ((Try.prog.info? 39).map (·.size) = some Xp.toArray.size) := Lib.hid (by rw [List.size_toArray, hlen]; exact size_parts 0 zI 0 zI 0 0 false 0)
  have HO := Lib.hid hO
  have HL := Lib.hid hlen
  have hro : (rdL X row).toArray.all (·.oneCell') = true := PL_one _ _ _ _ _ _ _ _
  have HRd : Hid (∀ u, Below w.heap.size w u → Calls Try.prog 15 #[.pointer (some ⟨g, 1, none⟩), .int .i64 row] u fun e w' => e = .returned (.agg (rdL X row).toArray) ∧ Below u.heap.size u w') := Lib.hid (fun u k => read_any (h0.keep k) hX row)
  have HTh : Hid (∀ u, Below w.heap.size w u → Calls Try.prog 14 #[.pointer (some ⟨g, 0, none⟩), .int .i64 row] u fun e w' => e = .returned (.bool true) ∧ u = w') := Lib.hid (fun u k => there_any (h0.keep k) row (by unfold thB; rw [show decide ((0 : Int) ≤ (row : Int)) = true by simp, show decide ((row : Int) < ((X 0).length : Int)) = true by simpa using hr]; rfl))
  have CC : Hid (∀ u, Below w.heap.size w u → u.cell? ⟨g, 0, none⟩ = some (.int .i64 s) ∧ u.cell? ⟨g, 1, none⟩ = some (.slice (some ⟨gi, 0, none⟩) (X 0).length cap) ∧ u.cell? ⟨gi, row, none⟩ = some (.int .i64 ((X 0).getD row d0).1)) := Lib.hid (fun u k => ⟨(h0.keep k).set0, by rw [← hv0]; exact ((h0.keep k).cell (j := 0) (by omega)).1, cell_keep ci k⟩)
  have hg := h0.blk.lt
  have hgi := hbk.lt
  have hX0 := hX 0 (by omega)
  obtain ⟨rid, hrid⟩ : ∃ rid, rid = ((X 0).getD row d0).1 := ⟨_, rfl⟩
  rw [← hrid] at CC ⊢
  obtain ⟨n, hn⟩ : ∃ n, n = (X 0).length := ⟨_, rfl⟩
  rw [← hn] at CC hr hX0 hcap
  obtain ⟨Y, hY⟩ : ∃ Y, Y = rdL X row := ⟨_, rfl⟩
  have hYl : Y.length = 24 := by rw [hY]; rfl
  have HYl := Lib.hid hYl
  rw [← hY] at HRd hXp hro
  have HYo := Lib.hid hro
  have HYz : Hid ((Try.prog.info? 39).map (·.size) = some Y.toArray.size) := Lib.hid (by rw [List.size_toArray, hYl]; exact size_parts 0 zI 0 zI 0 0 false 0)
  have r0 : (0 : Int) ≤ (row : Int) := by omega
  have r1 : (row : Int) < (n : Int) := by omega
  have HXp := Lib.hid hXp
  unfold maxLen at hmax
  have K5 := Lib.hid (Blk.new w 39 Z24.toArray)
  have HB5 : Hid (Below w.heap.size w (w.alloc (.cells Z24.toArray 39))) := Lib.hid (alloc_below _ _)
  clear hXp hro hY hn hrid hlen hbk ci hown hv0 h0 hX hO hYl
  go_enter Try.func6, Try.ntmps6
  go_upto_region 1 with fail
  refine fin (fun W => Blk W w.heap.size 39 Z24.toArray ∧ Below w.heap.size w W) ⟨K5.out, HB5.out⟩ ?_
  clear K5 HB5
  rintro W ⟨k5, hb⟩
  have K5 := Lib.hid k5
  have HB := Lib.hid hb
  clear k5 hb
  go_wp2_with fail
  refine (HTh.out _ HB.out).mono ?_
  rintro e w1 ⟨rfl, rfl⟩
  go_wp2_with fail
  refine (HRd.out _ HB.out).mono ?_
  rintro e w1 ⟨rfl, b1⟩
  replace K5 := Lib.hid (Blk.keep K5.out b1)
  replace HB := Lib.hid (bthen HB.out b1)
  clear b1 HTh HRd
  have hw5 : w.heap.size < w1.heap.size := K5.out.lt
  have K7 := Lib.hid (Blk.new w1 39 Z24.toArray)
  have HT7 : Hid ((w1.alloc (.cells Z24.toArray 39)).there w1.heap.size 0 Y.toArray.size) := Lib.hid (blk_there K7.out (by rw [List.size_toArray, HYl.out]; exact Nat.le_refl 24))
  have L7 : Hid (Blk ((w1.alloc (.cells Z24.toArray 39)).setCells w1.heap.size 0 Y) w1.heap.size 39 Y.toArray ∧ Blk ((w1.alloc (.cells Z24.toArray 39)).setCells w1.heap.size 0 Y) w.heap.size 39 Z24.toArray ∧ Below w.heap.size w ((w1.alloc (.cells Z24.toArray 39)).setCells w1.heap.size 0 Y)) := Lib.hid ⟨blk_over K7.out HYl.out, blk_setFar _ (K5.out.alloc _) (by omega), below_setCells _ (balloc HB.out _) (by omega)⟩
  go_upto_region 4 with (refine wpList_store_mid rfl 39 (.tmp 7) (.tmp 17) rfl w1.heap.size 0 Y.toArray rfl rfl HT7.out HYz.out HYo.out ?_)
  refine fin (fun W => Blk W w1.heap.size 39 Y.toArray ∧ Blk W w.heap.size 39 Z24.toArray ∧ Below w.heap.size w W) L7.out ?_
  obtain ⟨g7, hg7⟩ : ∃ g7, g7 = w1.heap.size := ⟨_, rfl⟩
  rw [← hg7]
  rw [← hg7] at hw5
  clear L7 HT7 K7 K5 HB hg7
  rintro W1 ⟨k7, k5, hb⟩
  obtain ⟨c0, -, -⟩ := CC.out _ hb
  obtain ⟨h70, hz70⟩ : ∃ h70, W1.cell? ⟨g7, 0, none⟩ = some h70 := by
    rw [k7.cell 0]
    exact ⟨Y[0]'(by rw [HYl.out]; omega), by simp [HYl.out]⟩
  have f70 := k7.frozen 0
  have hg7l := k7.lt
  have hgW : g < W1.heap.size := Nat.lt_of_lt_of_le hg hb.size
  have L7 : Hid (Blk (W1.setCell ⟨g7, 0, none⟩ (.int .i64 s)) g7 39 Xp.toArray ∧ Blk (W1.setCell ⟨g7, 0, none⟩ (.int .i64 s)) w.heap.size 39 Z24.toArray ∧ Below w.heap.size w (W1.setCell ⟨g7, 0, none⟩ (.int .i64 s))) := Lib.hid ⟨by
    have := k7.set_ 0 (.int .i64 s)
    rw [← HXp.out]
    simpa using this, k5.far (p := ⟨g7, 0, none⟩) (by simp; omega) _, hb.setCell (p := ⟨g7, 0, none⟩) (by simp; omega) _⟩
  clear k7 k5 hb
  go_upto_region 5 with fail
  refine fin (fun W => Blk W g7 39 Xp.toArray ∧ Blk W w.heap.size 39 Z24.toArray ∧ Below w.heap.size w W) L7.out ?_
  clear L7 c0 hz70 f70 hg7l hgW
  rintro W2 ⟨k7, k5, hb⟩
  have K7 := Lib.hid (Blk.drew k7)
  have K5 := Lib.hid (Blk.drew k5)
  have HB := Lib.hid (bdrw hb)
  have hw5' : w.heap.size < W2.heap.size := k5.lt
  clear k7 k5 hb
  refine wp_region_held_drew (S := fun w' => w'.cell? ⟨g, 1, none⟩ = some (.slice (some ⟨gi, 0, none⟩) n cap) ∧ w'.cell? ⟨gi, row, none⟩ = some (.int .i64 rid) ∧ w'.rangeAt g7 0 Xp) (by kernel_rfl) (⟨(CC.out _ HB.out).2.1, (CC.out _ HB.out).2.2, blk_whole K7.out⟩) (fun hHeld => ?_)
  refine wpAnyH_take (i := 0) (v := ?_) rfl (by kernel_rfl) (by kernel_rfl) (by kernel_rfl) (fun _ _ _ h => h) (Or.inl ⟨by rfl, ?_⟩) hHeld ?_
  rotate_left
  · intro w hSw
    obtain ⟨s1, s2, s3⟩ := hSw
    go_simp
    with_reducible rfl
  simp only [Act.put, List.getElem_toArray, List.getElem_cons_zero, List.setIfInBounds_toArray, List.set_cons_zero, List.set_cons_succ]
  refine wpAnyH_take (i := 1) (v := ?_) rfl (by kernel_rfl) (by kernel_rfl) (by kernel_rfl) (fun _ _ _ h => h) (Or.inl ⟨by rfl, ?_⟩) hHeld ?_
  rotate_left
  · intro w hSw
    obtain ⟨s1, s2, s3⟩ := hSw
    go_simp
    with_reducible rfl
  simp only [Act.put, List.getElem_toArray, List.getElem_cons_zero, List.getElem_cons_succ, List.setIfInBounds_toArray, List.set_cons_zero, List.set_cons_succ]
  refine wpAnyH_take (i := 2) (v := ?_) rfl (by kernel_rfl) (by kernel_rfl) (by kernel_rfl) (fun _ _ _ h => h) (Or.inl ⟨by rfl, ?_⟩) hHeld ?_
  rotate_left
  · intro w hSw
    obtain ⟨s1, s2, s3⟩ := hSw
    go_simp
    with_reducible rfl
  simp only [Act.put, List.getElem_toArray, List.getElem_cons_zero, List.getElem_cons_succ, List.setIfInBounds_toArray, List.set_cons_zero, List.set_cons_succ]
  refine wpAnyH_take (i := 3) (v := ?_) rfl (by kernel_rfl) (by kernel_rfl) (by kernel_rfl) (fun _ _ _ h => h) (Or.inl ⟨by rfl, ?_⟩) hHeld ?_
  rotate_left
  · intro w hSw
    obtain ⟨s1, s2, s3⟩ := hSw
    go_simp
    with_reducible rfl
  simp only [Act.put, List.getElem_toArray, List.getElem_cons_zero, List.getElem_cons_succ, List.setIfInBounds_toArray, List.set_cons_zero, List.set_cons_succ]
  refine wpAnyH_take (i := 4) (v := ?_) rfl (by kernel_rfl) (by kernel_rfl) (by kernel_rfl) (fun _ _ _ h => h) (Or.inl ⟨by rfl, ?_⟩) hHeld ?_
  rotate_left
  · intro w hSw
    obtain ⟨s1, s2, s3⟩ := hSw
    go_simp
    with_reducible rfl
  simp only [Act.put, List.getElem_toArray, List.getElem_cons_zero, List.getElem_cons_succ, List.setIfInBounds_toArray, List.set_cons_zero, List.set_cons_succ]
  refine wpAnyH_take (i := 5) (v := ?_) rfl (by kernel_rfl) (by kernel_rfl) (by kernel_rfl) (fun _ _ _ h => h) (Or.inl ⟨by rfl, ?_⟩) hHeld ?_
  rotate_left
  · intro w hSw
    obtain ⟨s1, s2, s3⟩ := hSw
    go_simp
    with_reducible rfl
  simp only [Act.put, List.getElem_toArray, List.getElem_cons_zero, List.getElem_cons_succ, List.setIfInBounds_toArray, List.set_cons_zero, List.set_cons_succ]
  refine wpAnyH_take (i := 6) (v := ?_) rfl (by kernel_rfl) (by kernel_rfl) (by kernel_rfl) (fun _ _ _ h => h) (Or.inl ⟨by rfl, ?_⟩) hHeld ?_
  rotate_left
  · intro w hSw
    obtain ⟨s1, s2, s3⟩ := hSw
    go_simp
    with_reducible rfl
  simp only [Act.put, List.getElem_toArray, List.getElem_cons_zero, List.getElem_cons_succ, List.setIfInBounds_toArray, List.set_cons_zero, List.set_cons_succ]
  refine wpAnyH_take (i := 7) (v := ?_) rfl (by kernel_rfl) (by kernel_rfl) (by kernel_rfl) (fun _ _ _ h => h) (Or.inl ⟨by rfl, ?_⟩) hHeld ?_
  rotate_left
  · intro w hSw
    obtain ⟨s1, s2, s3⟩ := hSw
    go_simp
    with_reducible rfl
  simp only [Act.put, List.getElem_toArray, List.getElem_cons_zero, List.getElem_cons_succ, List.setIfInBounds_toArray, List.set_cons_zero, List.set_cons_succ]
  refine wpAnyH_take (i := 8) (v := _) rfl (by kernel_rfl) (by kernel_rfl) (by kernel_rfl) (fun _ _ _ h => h) (yieldsIf_load_mid (by rfl) _ _ rfl _ _ rfl _ _ (fun _ h => h.2.2) Try.underlying39 rfl HSz.out) hHeld ?_
  simp only [Act.put, List.getElem_toArray, List.getElem_cons_zero, List.getElem_cons_succ, List.setIfInBounds_toArray, List.set_cons_zero, List.set_cons_succ]
  refine wpAnyH_take (i := 9) (v := ?_) rfl (by kernel_rfl) (by kernel_rfl) (by kernel_rfl) (fun _ _ _ h => h) (Or.inl ⟨by rfl, ?_⟩) hHeld ?_
  rotate_left
  · intro w hSw
    obtain ⟨s1, s2, s3⟩ := hSw
    go_simp
    with_reducible rfl
  simp only [Act.put, List.getElem_toArray, List.getElem_cons_zero, List.getElem_cons_succ, List.setIfInBounds_toArray, List.set_cons_zero, List.set_cons_succ]
  have HS5 : Hid (Blk (W2.drew.setCells w.heap.size 0 Xp) w.heap.size 39 Xp.toArray) := Lib.hid (blk_over K5.out HL.out)
  refine wpAnyH_ready (rs := [10]) (by kernel_rfl) (by simp) ?_
  refine AllReadyH.cons rfl (fun K hK => ?_) AllReadyH.nil
  rw [if_pos (by rfl)]
  refine wp_store_mid 39 _ _ rfl w.heap.size 0 Xp.toArray rfl rfl (blk_there K5.out (by rw [List.size_toArray, HL.out]; exact Nat.le_refl 24)) HSz'.out HO.out ?_
  refine hK.out _ _ ⟨(CC.out _ (below_setCells _ HB.out (Nat.le_refl _))).2.1, (CC.out _ (below_setCells _ HB.out (Nat.le_refl _))).2.2, blk_whole (blk_setFar _ K7.out (by omega))⟩ (fun hHeld => ?_)
  clear hK K
  refine wpAnyH_take (i := 11) (v := ?_) rfl (by kernel_rfl) (by kernel_rfl) (by kernel_rfl) (fun _ _ _ h => h) (Or.inl ⟨by rfl, ?_⟩) hHeld ?_
  rotate_left
  · intro w hSw
    obtain ⟨s1, s2, s3⟩ := hSw
    go_simp
    with_reducible rfl
  simp only [Act.put, List.getElem_toArray, List.getElem_cons_zero, List.getElem_cons_succ, List.setIfInBounds_toArray, List.set_cons_zero, List.set_cons_succ]
  refine wpAnyH_done (by kernel_rfl) ?_ _
  clear hHeld
  go_wp2_with fail
  refine fin (fun W => Blk W w.heap.size 39 Xp.toArray ∧ Below w.heap.size w W) ⟨HS5.out, below_setCells _ HB.out (Nat.le_refl _)⟩ ?_
  rintro W ⟨kr, hb⟩
  have hl := run_loadVar_mid W w.heap.size 0 39 Xp _ (blk_whole kr) Try.underlying39 rfl HSz.out
  try simp only [Go.Act.put, List.setIfInBounds_toArray, List.set_cons_zero, List.set_cons_succ]
  exact bodyPost_ret (v := .tuple #[.int .i64 rid, .agg Xp.toArray, .bool true]) (results_cell3 Try.results6 rfl rfl rfl hl) rfl ⟨rfl, hb⟩

end Go.Proofs.Ytpobnmcjmclgbaa
