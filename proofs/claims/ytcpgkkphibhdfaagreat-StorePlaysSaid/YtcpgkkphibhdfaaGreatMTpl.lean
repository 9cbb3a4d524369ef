/-
  2 texts in one file, each with its own heading.
-/
import Derived.Test.YtcpgkkphibhdfaaGreatMTpj
/-
  A table as it landed: a row that is added, put, cut, read, in its columns; what Row answers.
-/
namespace Go.Proofs.YtcpgkkphibhdfaaGreat
open Go.RowKit

theorem kinds_mem (s : Int) {k : Nat} (hk : k < 5) : ((k : Int) ∈ kindsL s) ↔ hasN s k = true := by
  unfold kindsL
  rw [List.mem_filter, has_yes (by omega)]
  have : (k : Int) ∈ ([0, 1, 2, 3, 4] : List Int) := by
    obtain rfl | rfl | rfl | rfl | rfl : k = 0 ∨ k = 1 ∨ k = 2 ∨ k = 3 ∨ k = 4 := by omega
    all_goals decide
  simp [this]
theorem hasC_kind (s : Int) {i : Nat} (hi : i < 8) : hasC s i = true ↔ (i = 0 ∨ kC i ∈ kindsL s) := by
  have k0 := kinds_mem s (k := 0) (by omega)
  have k1 := kinds_mem s (k := 1) (by omega)
  have k2 := kinds_mem s (k := 2) (by omega)
  have k3 := kinds_mem s (k := 3) (by omega)
  rcases lt8 hi with rfl | rfl | rfl | rfl | rfl | rfl | rfl | rfl
  · simp [hasC]
  all_goals
    simp only [hasC, kC]
    simp
    first | exact k0.symm | exact k1.symm | exact k2.symm | exact k3.symm
theorem Rs_add (s : Int) (R : TR) (y : Int × PT) {i : Nat} (hi : i < 8) : addKs (kindsL s) (Rs s R) y i = Rs s (R ++ [y]) i := by
  unfold addKs Rs
  by_cases c : hasC s i = true
  · rw [if_pos ((hasC_kind s hi).1 c), if_pos c, if_pos c]
  · rw [if_neg (fun d => c ((hasC_kind s hi).2 d)), if_neg c, if_neg c]
theorem Rs_put (s : Int) (R : TR) (row : Nat) (y : Int × PT) {i : Nat} (h0 : 1 ≤ i) (hi : i < 8) : putTo (Rs s R) row y 8 i = Rs s (R.set row y) i := by
  unfold putTo Rs
  rw [if_pos ⟨h0, hi⟩]
  split
  · rfl
  · simp
theorem Rs_cut (s : Int) (R : TR) (row i : Nat) : cutL (Rs s R i) row = Rs s (cutL R row) i := by
  unfold Rs
  split
  · rfl
  · unfold cutL; rw [if_neg (by simp)]
theorem col0_put {w : World} {v : Value} {R : TR} {row : Nat} (h : Col w 0 v R) (P : PT) : Col w 0 v (R.set row ((R.getD row d0).1, P)) := by
  have e : ∀ R : TR, R.flatMap cId = (R.map Prod.fst).map (fun x => Value.int .i64 x) := fun R => by
    induction R with
    | nil => rfl
    | cons x r ih => rw [List.flatMap_cons, ih]; rfl
  have e2 : (R.set row ((R.getD row d0).1, P)).map Prod.fst = R.map Prod.fst := by
    rw [List.map_set]
    by_cases c : row < R.length
    · have : (R.getD row d0).1 = (R.map Prod.fst)[row]'(by simpa using c) := by simp [List.getD, List.getElem?_eq_getElem c]
      rw [this, List.set_getElem_self]
    · exact List.set_eq_of_length_le (by simpa using Nat.le_of_not_lt c)
  show w.ownsRow 0 _ _ v _ ((R.set row ((R.getD row d0).1, P)).flatMap cId)
  rw [e, e2, ← e, List.length_set]
  exact h
theorem tab_put {w : World} {g : Nat} {s : Int} {v : Nat → Value} {R : TR} {row : Nat} {P : PT} (h : Tab w g s v (putTo (Rs s R) row ((R.getD row d0).1, P) 8)) : Tab w g s v (Rs s (R.set row ((R.getD row d0).1, P))) :=
  ⟨h.blk, fun i hi => by
    by_cases c : i = 0
    · subst c
      exact col0_put (h.own 0 (by omega)) P
    · rw [← Rs_put s R row _ (by omega) hi]
      exact h.own i hi, h.far, h.off⟩
theorem rd_row {s : Int} {R : TR} {row : Nat} (hs : 0 ≤ s ∧ s ≤ 31) (hr : row < R.length) (hf : ∀ x ∈ R, fitsB s x.2 = true) : (rdL (Rs s R) row).set 0 (.int .i64 s) = pl (R.getD row d0).2 := by
  have hm : R.getD row d0 ∈ R := by
    have := getD_at hr
    exact List.mem_of_getElem? this
  have hfit := hf _ hm
  obtain ⟨P, hP⟩ : ∃ P, P = (R.getD row d0).2 := ⟨_, rfl⟩
  rw [← hP] at hfit ⊢
  unfold fitsB at hfit
  rw [Bool.and_eq_true, beq_iff_eq] at hfit
  have hb := right_bare hfit.1
  rw [hfit.2] at hb
  rw [← hb]
  have e1 : s % 32 = s := by omega
  have g : ∀ i, (Rs s R i).getD row d0 = if hasC s i then R.getD row d0 else d0 := fun i => by unfold Rs; split <;> rfl
  unfold rdL
  rw [g, g, g, g, g, g, g]
  show PL s _ _ _ _ _ _ _ = pl (pickT s P)
  unfold pl pickT
  simp only [e1, hP]
  unfold hasC
  cases hasN s 0 <;> cases hasN s 1 <;> cases hasN s 2 <;> cases hasN s 3 <;> rfl
theorem TBl.keep {w w' : World} {g : Nat} {L : Nat → Prop} {s : Int} {R : TR} (h : TBl w g L s R) (hb : Below w.heap.size w w') : TBl w' g L s R := by
  obtain ⟨v, h1, h2⟩ := h
  exact ⟨v, h1.keep hb, h2⟩
theorem build_zero (W : World) : (Instr.build 44 #[]).run Tryz.prog W = .ok (.agg (pl zT).toArray) W := by kernel_rfl
theorem wpList_bld0 {ops : Array Oper} {rest : List Oper} {op : Oper} {a : Go.Act} {w : World} {Q : Exit → Go.Act → World → Prop} (hgd : op.guard = none) (t : TypeId) (ho : op.op = .build t #[]) (vr : Value)
    (hrun : ∀ W, (Instr.build t #[]).run Tryz.prog W = .ok vr W)
    (h : wpList Tryz.prog ops Q rest (a.put op.dst vr) w) : wpList Tryz.prog ops Q (op :: rest) a w :=
  wpList_plain hgd fun K hK => by
    have h2 := hK _ _ h
    unfold Oper.wp execOp
    simp only [ho]
    simp [hrun]
    exact h2
theorem results_cell3 {fn : Func} {tmps : Array Value} {s r q : Tmp} {t : TypeId} {g : Nat} {v u x : Value} {w : World} (hr : fn.results = #[.tmp q, .cell s t, .tmp r]) (hp : tmps.getD s undef = .pointer (some ⟨g, 0, none⟩)) (hu : tmps.getD r undef = u) (hx : tmps.getD q undef = x) (hl : (loadVar t ⟨g, 0, none⟩).run Tryz.prog w = .ok v w) : (results fn tmps).run Tryz.prog w = .ok (.tuple #[x, v, u]) w := by
  unfold results
  rw [hr]
  have hp' : tmps[s]?.getD undef = .pointer (some ⟨g, 0, none⟩) := by simpa using hp
  have hu' : tmps[r]?.getD undef = u := by simpa using hu
  have hx' : tmps[q]?.getD undef = x := by simpa using hx
  simp [hp', hu', hx', hl, asAddr]
set_option maxHeartbeats 2000000 in
set_option maxRecDepth 100000 in
theorem row_no {g : Nat} {s : Int} {v : Nat → Value} {X : Nat → TR} {w : World} (h0 : Tab w g s v X) (row : Int) (hb : thB (X 0).length row = false) :
    Calls Tryz.prog 43 #[.pointer (some ⟨g, 0, none⟩), .int .i64 row] w fun e w' => e = .returned (.tuple #[.int .i64 0, .agg (pl zT).toArray, .bool false]) ∧ Below w.heap.size w w' := by
  have HT := Lib.hid (h0.keep (alloc_below w (.cells Z24.toArray 44)))
  have HB := Lib.hid hb
  have HBd := Lib.hid build_zero
  have HSz := Lib.hid (pl_size zT)
  have HSz' := Lib.hid (pl_size' zT)
  have HO := Lib.hid (pl_one zT)
  have HL : Hid ((pl zT).length = Z24.length) := Lib.hid rfl
  obtain ⟨Xp, hXp⟩ : ∃ Xp, Xp = pl zT := ⟨_, rfl⟩
  rw [← hXp] at HBd HSz HSz' HO HL
  rw [← hXp]
  have K5 := Lib.hid (Blk.new w 44 Z24.toArray)
  have HT5 : Hid ((w.alloc (.cells Z24.toArray 44)).there w.heap.size 0 Xp.toArray.size) := Lib.hid (blk_there K5.out (by rw [List.size_toArray, HL.out]; omega))
  have L5 : Hid (Blk ((w.alloc (.cells Z24.toArray 44)).setCells w.heap.size 0 Xp) w.heap.size 44 Xp.toArray) := Lib.hid (blk_over K5.out HL.out)
  clear hXp hb h0
  go_enter Tryz.func43, Tryz.ntmps43
  go_wp2_with fail
  refine (there_any HT.out row HB.out).mono ?_
  rintro e w1 ⟨rfl, rfl⟩
  go_wp2_with (first | refine wpList_bld0 rfl 44 rfl (.agg Xp.toArray) HBd.out ?_ | refine wpList_store_mid rfl 44 (.tmp 5) (.tmp 12) rfl w.heap.size 0 Xp.toArray rfl rfl HT5.out HSz'.out HO.out ?_)
  refine fin (fun W => Blk W w.heap.size 44 Xp.toArray ∧ Below w.heap.size w W) ⟨L5.out, below_setCells _ (alloc_below _ _) (Nat.le_refl _)⟩ ?_
  rintro W ⟨kr, hb⟩
  have hl := run_loadVar_mid W w.heap.size 0 44 Xp _ (blk_whole kr) Tryz.underlying44 rfl HSz.out
  try simp only [Go.Act.put, List.setIfInBounds_toArray, List.set_cons_zero, List.set_cons_succ]
  exact bodyPost_ret (v := .tuple #[.int .i64 0, .agg Xp.toArray, .bool false]) (results_cell3 Tryz.results43 rfl rfl rfl hl) rfl ⟨rfl, hb⟩

set_option maxHeartbeats 4000000 in
set_option maxRecDepth 100000 in
theorem row_yes {g : Nat} {s : Int} {v : Nat → Value} {X : Nat → TR} {w : World} (h0 : Tab w g s v X) (hX : ∀ i, i < 8 → (X i).length ≤ 1000) (row : Nat) (hr : row < (X 0).length) (Xp : List Value) (hXp : (rdL X row).set 0 (.int .i64 s) = Xp) (hO : Xp.toArray.all (·.oneCell') = true) :
    Calls Tryz.prog 43 #[.pointer (some ⟨g, 0, none⟩), .int .i64 row] w fun e w' => e = .returned (.tuple #[.int .i64 ((X 0).getD row d0).1, .agg Xp.toArray, .bool true]) ∧ Below w.heap.size w w' := by
  obtain ⟨gi, cap, cur, hv0, hbk, hcap, hmax, _, _⟩ := (h0.own 0 (by omega)).open_ (by omega)
  have hown := h0.own 0 (by omega)
  rw [hv0] at hown
  have ci := range1 (ColX.range (c := cId) (k := 1) (fun _ => rfl) hown (getD_at hr))
  have hlen : Xp.length = 24 := by rw [← hXp]; rfl
  have HSz : Hid ((Tryz.prog.info? 44).map (·.size) = some Xp.length) := Lib.hid (by rw [hlen]; exact size_parts 0 zI 0 zI 0 0 false 0)
  have HSz' : Hid ((Tryz.prog.info? 44).map (·.size) = some Xp.toArray.size) := Lib.hid (by rw [List.size_toArray, hlen]; exact size_parts 0 zI 0 zI 0 0 false 0)
  have HO := Lib.hid hO
  have HL := Lib.hid hlen
  have hro : (rdL X row).toArray.all (·.oneCell') = true := PL_one _ _ _ _ _ _ _ _
  have HRd : Hid (∀ u, Below w.heap.size w u → Calls Tryz.prog 79 #[.pointer (some ⟨g, 1, none⟩), .int .i64 row] u fun e w' => e = .returned (.agg (rdL X row).toArray) ∧ Below u.heap.size u w') := Lib.hid (fun u k => read_any (h0.keep k) hX row)
  have HTh : Hid (∀ u, Below w.heap.size w u → Calls Tryz.prog 78 #[.pointer (some ⟨g, 0, none⟩), .int .i64 row] u fun e w' => e = .returned (.bool true) ∧ u = w') := Lib.hid (fun u k => there_any (h0.keep k) row (by unfold thB; rw [show decide ((0 : Int) ≤ (row : Int)) = true by simp, show decide ((row : Int) < ((X 0).length : Int)) = true by simpa using hr]; rfl))
  have CC : Hid (∀ u, Below w.heap.size w u → u.cell? ⟨g, 0, none⟩ = some (.int .i64 s) ∧ u.cell? ⟨g, 1, none⟩ = some (.slice (some ⟨gi, 0, none⟩) (X 0).length cap) ∧ u.cell? ⟨gi, row, none⟩ = some (.int .i64 ((X 0).getD row d0).1)) := Lib.hid (fun u k => ⟨(h0.keep k).set0, by rw [← hv0]; exact ((h0.keep k).cell (j := 0) (by omega)).1, cell_keep ci k⟩)
  have hg := h0.blk.lt
  have hgi := hbk.lt
  have hX0 := hX 0 (by omega)
  obtain ⟨rid, hrid⟩ : ∃ rid, rid = ((X 0).getD row d0).1 := ⟨_, rfl⟩
  rw [← hrid] at CC ⊢
  obtain ⟨n, hn⟩ : ∃ n, n = (X 0).length := ⟨_, rfl⟩
  rw [← hn] at CC hr hX0 hcap
  obtain ⟨Y, hY⟩ : ∃ Y, Y = rdL X row := ⟨_, rfl⟩
  have hYl : Y.length = 24 := by rw [hY]; rfl
  have HYl := Lib.hid hYl
  rw [← hY] at HRd hXp hro
  have HYo := Lib.hid hro
  have HYz : Hid ((Tryz.prog.info? 44).map (·.size) = some Y.toArray.size) := Lib.hid (by rw [List.size_toArray, hYl]; exact size_parts 0 zI 0 zI 0 0 false 0)
  have r0 : (0 : Int) ≤ (row : Int) := by omega
  have r1 : (row : Int) < (n : Int) := by omega
  have HXp := Lib.hid hXp
  unfold maxLen at hmax
  have K5 := Lib.hid (Blk.new w 44 Z24.toArray)
  have HB5 : Hid (Below w.heap.size w (w.alloc (.cells Z24.toArray 44))) := Lib.hid (alloc_below _ _)
  clear hXp hro hY hn hrid hlen hbk ci hown hv0 h0 hX hO hYl
  go_enter Tryz.func43, Tryz.ntmps43
  go_upto_region 1 with fail
  refine fin (fun W => Blk W w.heap.size 44 Z24.toArray ∧ Below w.heap.size w W) ⟨K5.out, HB5.out⟩ ?_
  clear K5 HB5
  rintro W ⟨k5, hb⟩
  have K5 := Lib.hid k5
  have HB := Lib.hid hb
  clear k5 hb
  go_wp2_with fail
  refine (HTh.out _ HB.out).mono ?_
  rintro e w1 ⟨rfl, rfl⟩
  go_wp2_with fail
  refine (HRd.out _ HB.out).mono ?_
  rintro e w1 ⟨rfl, b1⟩
  replace K5 := Lib.hid (Blk.keep K5.out b1)
  replace HB := Lib.hid (bthen HB.out b1)
  clear b1 HTh HRd
  have hw5 : w.heap.size < w1.heap.size := K5.out.lt
  have K7 := Lib.hid (Blk.new w1 44 Z24.toArray)
  have HT7 : Hid ((w1.alloc (.cells Z24.toArray 44)).there w1.heap.size 0 Y.toArray.size) := Lib.hid (blk_there K7.out (by rw [List.size_toArray, HYl.out]; exact Nat.le_refl 24))
  have L7 : Hid (Blk ((w1.alloc (.cells Z24.toArray 44)).setCells w1.heap.size 0 Y) w1.heap.size 44 Y.toArray ∧ Blk ((w1.alloc (.cells Z24.toArray 44)).setCells w1.heap.size 0 Y) w.heap.size 44 Z24.toArray ∧ Below w.heap.size w ((w1.alloc (.cells Z24.toArray 44)).setCells w1.heap.size 0 Y)) := Lib.hid ⟨blk_over K7.out HYl.out, blk_setFar _ (K5.out.alloc _) (by omega), below_setCells _ (balloc HB.out _) (by omega)⟩
  go_upto_region 4 with (refine wpList_store_mid rfl 44 (.tmp 7) (.tmp 17) rfl w1.heap.size 0 Y.toArray rfl rfl HT7.out HYz.out HYo.out ?_)
  refine fin (fun W => Blk W w1.heap.size 44 Y.toArray ∧ Blk W w.heap.size 44 Z24.toArray ∧ Below w.heap.size w W) L7.out ?_
  obtain ⟨g7, hg7⟩ : ∃ g7, g7 = w1.heap.size := ⟨_, rfl⟩
  rw [← hg7]
  rw [← hg7] at hw5
  clear L7 HT7 K7 K5 HB hg7
  rintro W1 ⟨k7, k5, hb⟩
  obtain ⟨c0, -, -⟩ := CC.out _ hb
  obtain ⟨h70, hz70⟩ : ∃ h70, W1.cell? ⟨g7, 0, none⟩ = some h70 := by
    rw [k7.cell 0]
    exact ⟨Y[0]'(by rw [HYl.out]; omega), by simp [HYl.out]⟩
  have f70 := k7.frozen 0
  have hg7l := k7.lt
  have hgW : g < W1.heap.size := Nat.lt_of_lt_of_le hg hb.size
  have L7 : Hid (Blk (W1.setCell ⟨g7, 0, none⟩ (.int .i64 s)) g7 44 Xp.toArray ∧ Blk (W1.setCell ⟨g7, 0, none⟩ (.int .i64 s)) w.heap.size 44 Z24.toArray ∧ Below w.heap.size w (W1.setCell ⟨g7, 0, none⟩ (.int .i64 s))) := Lib.hid ⟨by
    have := k7.set_ 0 (.int .i64 s)
    rw [← HXp.out]
    simpa using this, k5.far (p := ⟨g7, 0, none⟩) (by simp; omega) _, hb.setCell (p := ⟨g7, 0, none⟩) (by simp; omega) _⟩
  clear k7 k5 hb
  go_upto_region 5 with fail
  refine fin (fun W => Blk W g7 44 Xp.toArray ∧ Blk W w.heap.size 44 Z24.toArray ∧ Below w.heap.size w W) L7.out ?_
  clear L7 c0 hz70 f70 hg7l hgW
  rintro W2 ⟨k7, k5, hb⟩
  have K7 := Lib.hid (Blk.drew k7)
  have K5 := Lib.hid (Blk.drew k5)
  have HB := Lib.hid (bdrw hb)
  have hw5' : w.heap.size < W2.heap.size := k5.lt
  clear k7 k5 hb
  refine wp_region_held_drew (S := fun w' => w'.cell? ⟨g, 1, none⟩ = some (.slice (some ⟨gi, 0, none⟩) n cap) ∧ w'.cell? ⟨gi, row, none⟩ = some (.int .i64 rid) ∧ w'.rangeAt g7 0 Xp) (by kernel_rfl) (⟨(CC.out _ HB.out).2.1, (CC.out _ HB.out).2.2, blk_whole K7.out⟩) (fun hHeld => ?_)
  refine wpAnyH_take (i := 0) (v := ?_) rfl (by kernel_rfl) (by kernel_rfl) (by kernel_rfl) (fun _ _ _ h => h) (Or.inl ⟨by rfl, ?_⟩) hHeld ?_
  rotate_left
  · intro w hSw
    obtain ⟨s1, s2, s3⟩ := hSw
    go_simp
    with_reducible rfl
  simp only [Act.put, List.getElem_toArray, List.getElem_cons_zero, List.setIfInBounds_toArray, List.set_cons_zero, List.set_cons_succ]
  refine wpAnyH_take (i := 1) (v := ?_) rfl (by kernel_rfl) (by kernel_rfl) (by kernel_rfl) (fun _ _ _ h => h) (Or.inl ⟨by rfl, ?_⟩) hHeld ?_
  rotate_left
  · intro w hSw
    obtain ⟨s1, s2, s3⟩ := hSw
    go_simp
    with_reducible rfl
  simp only [Act.put, List.getElem_toArray, List.getElem_cons_zero, List.getElem_cons_succ, List.setIfInBounds_toArray, List.set_cons_zero, List.set_cons_succ]
  refine wpAnyH_take (i := 2) (v := ?_) rfl (by kernel_rfl) (by kernel_rfl) (by kernel_rfl) (fun _ _ _ h => h) (Or.inl ⟨by rfl, ?_⟩) hHeld ?_
  rotate_left
  · intro w hSw
    obtain ⟨s1, s2, s3⟩ := hSw
    go_simp
    with_reducible rfl
  simp only [Act.put, List.getElem_toArray, List.getElem_cons_zero, List.getElem_cons_succ, List.setIfInBounds_toArray, List.set_cons_zero, List.set_cons_succ]
  refine wpAnyH_take (i := 3) (v := ?_) rfl (by kernel_rfl) (by kernel_rfl) (by kernel_rfl) (fun _ _ _ h => h) (Or.inl ⟨by rfl, ?_⟩) hHeld ?_
  rotate_left
  · intro w hSw
    obtain ⟨s1, s2, s3⟩ := hSw
    go_simp
    with_reducible rfl
  simp only [Act.put, List.getElem_toArray, List.getElem_cons_zero, List.getElem_cons_succ, List.setIfInBounds_toArray, List.set_cons_zero, List.set_cons_succ]
  refine wpAnyH_take (i := 4) (v := ?_) rfl (by kernel_rfl) (by kernel_rfl) (by kernel_rfl) (fun _ _ _ h => h) (Or.inl ⟨by rfl, ?_⟩) hHeld ?_
  rotate_left
  · intro w hSw
    obtain ⟨s1, s2, s3⟩ := hSw
    go_simp
    with_reducible rfl
  simp only [Act.put, List.getElem_toArray, List.getElem_cons_zero, List.getElem_cons_succ, List.setIfInBounds_toArray, List.set_cons_zero, List.set_cons_succ]
  refine wpAnyH_take (i := 5) (v := ?_) rfl (by kernel_rfl) (by kernel_rfl) (by kernel_rfl) (fun _ _ _ h => h) (Or.inl ⟨by rfl, ?_⟩) hHeld ?_
  rotate_left
  · intro w hSw
    obtain ⟨s1, s2, s3⟩ := hSw
    go_simp
    with_reducible rfl
  simp only [Act.put, List.getElem_toArray, List.getElem_cons_zero, List.getElem_cons_succ, List.setIfInBounds_toArray, List.set_cons_zero, List.set_cons_succ]
  refine wpAnyH_take (i := 6) (v := ?_) rfl (by kernel_rfl) (by kernel_rfl) (by kernel_rfl) (fun _ _ _ h => h) (Or.inl ⟨by rfl, ?_⟩) hHeld ?_
  rotate_left
  · intro w hSw
    obtain ⟨s1, s2, s3⟩ := hSw
    go_simp
    with_reducible rfl
  simp only [Act.put, List.getElem_toArray, List.getElem_cons_zero, List.getElem_cons_succ, List.setIfInBounds_toArray, List.set_cons_zero, List.set_cons_succ]
  refine wpAnyH_take (i := 7) (v := ?_) rfl (by kernel_rfl) (by kernel_rfl) (by kernel_rfl) (fun _ _ _ h => h) (Or.inl ⟨by rfl, ?_⟩) hHeld ?_
  rotate_left
  · intro w hSw
    obtain ⟨s1, s2, s3⟩ := hSw
    go_simp
    with_reducible rfl
  simp only [Act.put, List.getElem_toArray, List.getElem_cons_zero, List.getElem_cons_succ, List.setIfInBounds_toArray, List.set_cons_zero, List.set_cons_succ]
  refine wpAnyH_take (i := 8) (v := _) rfl (by kernel_rfl) (by kernel_rfl) (by kernel_rfl) (fun _ _ _ h => h) (yieldsIf_load_mid (by rfl) _ _ rfl _ _ rfl _ _ (fun _ h => h.2.2) Tryz.underlying44 rfl HSz.out) hHeld ?_
  simp only [Act.put, List.getElem_toArray, List.getElem_cons_zero, List.getElem_cons_succ, List.setIfInBounds_toArray, List.set_cons_zero, List.set_cons_succ]
  refine wpAnyH_take (i := 9) (v := ?_) rfl (by kernel_rfl) (by kernel_rfl) (by kernel_rfl) (fun _ _ _ h => h) (Or.inl ⟨by rfl, ?_⟩) hHeld ?_
  rotate_left
  · intro w hSw
    obtain ⟨s1, s2, s3⟩ := hSw
    go_simp
    with_reducible rfl
  simp only [Act.put, List.getElem_toArray, List.getElem_cons_zero, List.getElem_cons_succ, List.setIfInBounds_toArray, List.set_cons_zero, List.set_cons_succ]
  have HS5 : Hid (Blk (W2.drew.setCells w.heap.size 0 Xp) w.heap.size 44 Xp.toArray) := Lib.hid (blk_over K5.out HL.out)
  refine wpAnyH_ready (rs := [10]) (by kernel_rfl) (by simp) ?_
  refine AllReadyH.cons rfl (fun K hK => ?_) AllReadyH.nil
  rw [if_pos (by rfl)]
  refine wp_store_mid 44 _ _ rfl w.heap.size 0 Xp.toArray rfl rfl (blk_there K5.out (by rw [List.size_toArray, HL.out]; exact Nat.le_refl 24)) HSz'.out HO.out ?_
  refine hK.out _ _ ⟨(CC.out _ (below_setCells _ HB.out (Nat.le_refl _))).2.1, (CC.out _ (below_setCells _ HB.out (Nat.le_refl _))).2.2, blk_whole (blk_setFar _ K7.out (by omega))⟩ (fun hHeld => ?_)
  clear hK K
  refine wpAnyH_take (i := 11) (v := ?_) rfl (by kernel_rfl) (by kernel_rfl) (by kernel_rfl) (fun _ _ _ h => h) (Or.inl ⟨by rfl, ?_⟩) hHeld ?_
  rotate_left
  · intro w hSw
    obtain ⟨s1, s2, s3⟩ := hSw
    go_simp
    with_reducible rfl
  simp only [Act.put, List.getElem_toArray, List.getElem_cons_zero, List.getElem_cons_succ, List.setIfInBounds_toArray, List.set_cons_zero, List.set_cons_succ]
  refine wpAnyH_done (by kernel_rfl) ?_ _
  clear hHeld
  go_wp2_with fail
  refine fin (fun W => Blk W w.heap.size 44 Xp.toArray ∧ Below w.heap.size w W) ⟨HS5.out, below_setCells _ HB.out (Nat.le_refl _)⟩ ?_
  rintro W ⟨kr, hb⟩
  have hl := run_loadVar_mid W w.heap.size 0 44 Xp _ (blk_whole kr) Tryz.underlying44 rfl HSz.out
  try simp only [Go.Act.put, List.setIfInBounds_toArray, List.set_cons_zero, List.set_cons_succ]
  exact bodyPost_ret (v := .tuple #[.int .i64 rid, .agg Xp.toArray, .bool true]) (results_cell3 Tryz.results43 rfl rfl rfl hl) rfl ⟨rfl, hb⟩

end Go.Proofs.YtcpgkkphibhdfaaGreat
/-
  What the landed table's Put, Cut and Add answer; the landed table keeps the bundle.
-/
namespace Go.Proofs.YtcpgkkphibhdfaaGreat
open Go.RowKit

theorem inR_nat {R : TR} {row : Int} (h : inR R row = true) : ∃ r : Nat, row = (r : Int) ∧ r < R.length := by
  unfold inR at h
  rw [Bool.and_eq_true, decide_eq_true_eq, decide_eq_true_eq] at h
  exact ⟨row.toNat, by omega, by omega⟩
theorem has_find {R : TR} {id : Int} (h : hasId R id = true) : 0 ≤ findI R id := by
  unfold findI
  cases hf : R.findIdx? (fun r => r.1 == id) with
  | none =>
    rw [List.findIdx?_eq_none_iff] at hf
    unfold hasId at h
    rw [List.any_eq_true] at h
    obtain ⟨x, hx, e⟩ := h
    rw [hf x hx] at e
    cases e
  | some i => exact Int.natCast_nonneg i
theorem hasnt_find {R : TR} {id : Int} (h : hasId R id = false) : findI R id = -1 := by
  unfold findI
  have : R.findIdx? (fun r => r.1 == id) = none := List.findIdx?_eq_none_iff.2 (fun x hx => by
    unfold hasId at h
    rw [List.any_eq_false] at h
    simpa using h x hx)
  rw [this]
theorem fit_set {s : Int} {R : TR} {i : Nat} {x : Int} {P : PT} (hf : ∀ x ∈ R, fitsB s x.2 = true) (hP : fitsB s P = true) : ∀ y ∈ R.set i (x, P), fitsB s y.2 = true := fun y hy => by
  rcases List.mem_or_eq_of_mem_set hy with h | h
  · exact hf y h
  · rw [h]; exact hP
theorem fit_add {s : Int} {R : TR} {x : Int} {P : PT} (hf : ∀ x ∈ R, fitsB s x.2 = true) (hP : fitsB s P = true) : ∀ y ∈ R ++ [(x, P)], fitsB s y.2 = true := fun y hy => by
  rcases List.mem_append.1 hy with h | h
  · exact hf y h
  · rw [List.mem_singleton.1 h]; exact hP
theorem fit_cut {s : Int} {R : TR} {i : Nat} (hf : ∀ x ∈ R, fitsB s x.2 = true) (hi : i < R.length) : ∀ y ∈ cutL R i, fitsB s y.2 = true := fun y hy => by
  unfold cutL at hy
  rw [if_pos hi] at hy
  rcases List.mem_or_eq_of_mem_set (List.mem_of_mem_take hy) with h | h
  · exact hf y h
  · rw [h]
    refine hf _ ?_
    exact List.mem_of_getElem? (getD_at (by omega))
/-- from a step to the bundle's words -/
theorem step_out {w w' : World} {g : Nat} {v v' : Nat → Value} {L : Nat → Prop} (hL : ∀ b, L b ↔ foot g v b) (st : Step w w' g v v') : Fr w w' L ∧ ∀ b, foot g v' b → L b ∨ w.heap.size ≤ b :=
  ⟨st.fr.of (fun b h => (hL b).2 h), fun b h => (st.new b h).imp (fun c => (hL b).2 c) id⟩
theorem rs_len8 {s : Int} {R : TR} (hR : R.length ≤ 1000) : ∀ i, i < 8 → (Rs s R i).length ≤ 1000 := fun i _ => Nat.le_trans (Rs_len s R i) hR

/-- a call that makes memory, and then one of what was handed in: the last region of Put and Add -/
theorem fits_no {s : Int} {P : PT} (h : fitsB s P = false) (R : TR) (row id : Int) : tpuE s R row P = 1 ∧ tpuR s R row P = R ∧ tadE s R id P = 1 ∧ tadN s R id P = 0 ∧ tadR s R id P = R := by
  have e1 : tpuE s R row P = 1 := by unfold tpuE; rw [h]; rfl
  have e2 : tadE s R id P = 1 := by unfold tadE; rw [h]; rfl
  refine ⟨e1, ?_, e2, ?_, ?_⟩
  · unfold tpuR; rw [e1]; rfl
  · unfold tadN; rw [e2]; rfl
  · unfold tadR; rw [e2]; rfl

set_option maxHeartbeats 4000000 in
set_option maxRecDepth 100000 in
theorem tput_any (w : World) (g : Nat) (L : Nat → Prop) (s : Int) (R : TR) (row : Int) (P : PT) (hR : R.length ≤ 1000) (h : TBl w g L s R) :
    Calls Tryz.prog 128 #[.pointer (some ⟨g, 0, none⟩), .int .i64 row, .agg (pl P).toArray] w fun e w' => ∃ L', e = .returned (.int .i64 (tpuE s R row P)) ∧ TBl w' g L' s (tpuR s R row P) ∧ Fr w w' L ∧ ∀ b, L' b → L b ∨ w.heap.size ≤ b := by
  obtain ⟨v, h1, hL, hs, hf⟩ := h
  have HT0 := Lib.hid h1
  have HLL := Lib.hid hL
  have HSS := Lib.hid hs
  have HFF := Lib.hid hf
  have hg := h1.blk.lt
  have HSz := Lib.hid (pl_size P)
  have HP : Hid (¬ foot g v w.heap.size) := Lib.hid (fun c => by have := h1.inb _ c; omega)
  obtain ⟨bf, hbf⟩ : ∃ bf, fitsB s P = bf := ⟨_, rfl⟩
  have HFi : Hid (∀ u, Below w.heap.size w u → Calls Tryz.prog 105 #[.pointer (some ⟨g, 0, none⟩), .agg (pl P).toArray] u fun e w' => e = .returned (.bool bf) ∧ Below u.heap.size u w') := Lib.hid (fun u k => fits_any (h1.keep k) P hbf)
  obtain ⟨bt, hbt⟩ : ∃ bt, inR R row = bt := ⟨_, rfl⟩
  have HTh : Hid (∀ u, Below w.heap.size w u → Calls Tryz.prog 78 #[.pointer (some ⟨g, 0, none⟩), .int .i64 row] u fun e w' => e = .returned (.bool bt) ∧ u = w') := Lib.hid (fun u k => there_any (h1.keep k) row (X := Rs s R) hbt)
  have HWr : Hid (∀ u (r : Nat) (i0 : Int), Below w.heap.size w u → row = (r : Int) → Calls Tryz.prog 157 #[.pointer (some ⟨g, 1, none⟩), .int .i64 row, .agg (pl P).toArray] u fun e w' => e = .returned (.tuple #[]) ∧ Tab w' g s v (putTo (Rs s R) r (i0, P) 8) ∧ Step u w' g v v) := Lib.hid (fun u r i0 k e => by
    obtain ⟨hh, M, m, B, p, a, c, l⟩ := P
    rw [e]
    exact write_any (h1.keep k) (rs_len8 hR) r i0 hh M m B p a c l)
  have HBF := Lib.hid hbf
  have HBT := Lib.hid hbt
  obtain ⟨Xp, hXp⟩ : ∃ Xp, Xp = pl P := ⟨_, rfl⟩
  rw [← hXp] at HSz HFi HWr
  rw [← hXp]
  clear hXp h1 hL hs hf hbf hbt
  have KP := Lib.hid (Blk.new w 44 Xp.toArray)
  have HB : Hid (Below w.heap.size w (w.alloc (.cells Xp.toArray 44))) := Lib.hid (alloc_below _ _)
  go_enter Tryz.func128, Tryz.ntmps128
  go_wp2_with (refine wpList_load_mid rfl 44 (.tmp 5) rfl w.heap.size 0 rfl Xp _ (blk_whole KP.out) Tryz.underlying44 rfl HSz.out ?_)
  refine (HFi.out _ HB.out).mono ?_
  rintro e w1 ⟨rfl, b1⟩
  replace KP := Lib.hid (Blk.keep KP.out b1)
  replace HB := Lib.hid (bthen HB.out b1)
  clear b1 HFi
  cases bf with
  | false =>
    go_wp2
    go_ret
    obtain ⟨e1, e2, _⟩ := fits_no HBF.out R row 0
    refine ⟨L, by rw [e1]; rfl, ?_, ?_, fun b hb => Or.inl hb⟩
    · rw [e2]; exact TBl.keep ⟨v, HT0.out, HLL.out, HSS.out, HFF.out⟩ HB.out
    · exact ⟨HB.out.os, HB.out.tape, HB.out.output, HB.out.size, fun k hk _ => HB.out.block k hk⟩
  | true =>
    go_wp2_with fail
    refine (HTh.out _ HB.out).mono ?_
    rintro e w2 ⟨rfl, rfl⟩
    clear HTh
    cases bt with
    | false =>
      go_wp2
      go_ret
      have e1 : tpuE s R row P = 4 := by unfold tpuE; rw [HBF.out, HBT.out]; rfl
      refine ⟨L, by rw [e1]; rfl, ?_, ?_, fun b hb => Or.inl hb⟩
      · unfold tpuR; rw [e1]; exact TBl.keep ⟨v, HT0.out, HLL.out, HSS.out, HFF.out⟩ HB.out
      · exact ⟨HB.out.os, HB.out.tape, HB.out.output, HB.out.size, fun k hk _ => HB.out.block k hk⟩
    | true =>
      obtain ⟨r, hr, hlt⟩ := inR_nat HBT.out
      have HR := Lib.hid hr
      have HRl := Lib.hid hlt
      clear hr hlt
      go_upto_region 5 with fail
      refine wp_region_held_drew (S := fun w' => w'.rangeAt w.heap.size 0 Xp) (by kernel_rfl) (blk_whole (Blk.drew KP.out)) (fun hHeld => ?_)
      refine wpAnyH_take (i := 0) (v := ?_) rfl (by kernel_rfl) (by kernel_rfl) (by kernel_rfl) (fun _ _ _ h => h) (Or.inl ⟨by rfl, ?_⟩) hHeld ?_
      rotate_left
      · intro w hSw
        go_simp
        with_reducible rfl
      simp only [Act.put, List.getElem_toArray, List.getElem_cons_zero, List.setIfInBounds_toArray, List.set_cons_zero, List.set_cons_succ]
      refine wpAnyH_take (i := 1) (v := ?_) rfl (by kernel_rfl) (by kernel_rfl) (by kernel_rfl) (fun _ _ _ h => h) (Or.inl ⟨by rfl, ?_⟩) hHeld ?_
      rotate_left
      · intro w hSw
        go_simp
        with_reducible rfl
      simp only [Act.put, List.getElem_toArray, List.getElem_cons_zero, List.getElem_cons_succ, List.setIfInBounds_toArray, List.set_cons_zero, List.set_cons_succ]
      refine wpAnyH_take (i := 2) (v := ?_) rfl (by kernel_rfl) (by kernel_rfl) (by kernel_rfl) (fun _ _ _ h => h) (Or.inl ⟨by rfl, ?_⟩) hHeld ?_
      rotate_left
      · intro w hSw
        go_simp
        with_reducible rfl
      simp only [Act.put, List.getElem_toArray, List.getElem_cons_zero, List.getElem_cons_succ, List.setIfInBounds_toArray, List.set_cons_zero, List.set_cons_succ]
      refine wpAnyH_take (i := 3) (v := ?_) rfl (by kernel_rfl) (by kernel_rfl) (by kernel_rfl) (fun _ _ _ h => h) (Or.inl ⟨by rfl, ?_⟩) hHeld ?_
      rotate_left
      · intro w hSw
        go_simp
        with_reducible rfl
      simp only [Act.put, List.getElem_toArray, List.getElem_cons_zero, List.getElem_cons_succ, List.setIfInBounds_toArray, List.set_cons_zero, List.set_cons_succ]
      refine wpAnyH_take (i := 4) (v := _) rfl (by kernel_rfl) (by kernel_rfl) (by kernel_rfl) (fun _ _ _ h => h) (yieldsIf_load_mid (by rfl) _ _ rfl _ _ rfl _ _ (fun _ h => h) Tryz.underlying44 rfl HSz.out) hHeld ?_
      simp only [Act.put, List.getElem_toArray, List.getElem_cons_zero, List.getElem_cons_succ, List.setIfInBounds_toArray, List.set_cons_zero, List.set_cons_succ]
      refine wpAnyH_ready (rs := [5]) (by kernel_rfl) (by simp) ?_
      refine AllReadyH.cons rfl (fun K hK => ?_) AllReadyH.nil
      go_simp
      go_at_call 157
      refine (HWr.out _ r (R.getD r d0).1 (bdrw HB.out) HR.out).mono ?_
      rintro e w2 ⟨rfl, ht, hst⟩
      have KN := Lib.hid (hst.blk (Blk.drew KP.out) HP.out)
      have HTN := Lib.hid ht
      have HSN := Lib.hid ((Step.below (g := g) (v := v) (bdrw HB.out)).trans hst)
      clear ht hst HWr
      go_wp2_with fail
      refine hK.out _ _ (blk_whole KN.out) (fun hHeld => ?_)
      clear hK K
      refine wpAnyH_done (by kernel_rfl) ?_ _
      clear hHeld KN KP
      go_wp2
      go_ret
      have e1 : tpuE s R row P = 0 := by unfold tpuE; rw [HBF.out, HBT.out]; rfl
      have e2 : tpuR s R row P = R.set r ((R.getD r d0).1, P) := by unfold tpuR; rw [e1, HR.out]; rfl
      obtain ⟨o1, o2⟩ := step_out HLL.out HSN.out
      refine ⟨foot g v, by rw [e1]; rfl, ?_, o1, o2⟩
      rw [e2]
      exact ⟨v, tab_put HTN.out, fun _ => Iff.rfl, HSS.out, fit_set HFF.out HBF.out⟩

set_option maxHeartbeats 4000000 in
set_option maxRecDepth 100000 in
theorem tadd_any (w : World) (g : Nat) (L : Nat → Prop) (s : Int) (R : TR) (id : Int) (P : PT) (hR : R.length ≤ 1000) (h : TBl w g L s R) :
    Calls Tryz.prog 74 #[.pointer (some ⟨g, 0, none⟩), .int .i64 id, .agg (pl P).toArray] w fun e w' => ∃ L', e = .returned (.tuple #[.int .i64 (tadN s R id P), .int .i64 (tadE s R id P)]) ∧ TBl w' g L' s (tadR s R id P) ∧ Fr w w' L ∧ ∀ b, L' b → L b ∨ w.heap.size ≤ b := by
  obtain ⟨v, h1, hL, hs, hf⟩ := h
  have HT0 := Lib.hid h1
  have HLL := Lib.hid hL
  have HSS := Lib.hid hs
  have HFF := Lib.hid hf
  have hg := h1.blk.lt
  have HSz := Lib.hid (pl_size P)
  have HP : Hid (¬ foot g v w.heap.size) := Lib.hid (fun c => by have := h1.inb _ c; omega)
  obtain ⟨bf, hbf⟩ : ∃ bf, fitsB s P = bf := ⟨_, rfl⟩
  have HFi : Hid (∀ u, Below w.heap.size w u → Calls Tryz.prog 105 #[.pointer (some ⟨g, 0, none⟩), .agg (pl P).toArray] u fun e w' => e = .returned (.bool bf) ∧ Below u.heap.size u w') := Lib.hid (fun u k => fits_any (h1.keep k) P hbf)
  obtain ⟨q, hq⟩ : ∃ q, findI R id = q := ⟨_, rfl⟩
  have HFd : Hid (∀ u, Below w.heap.size w u → Calls Tryz.prog 77 #[.pointer (some ⟨g, 0, none⟩), .int .i64 id] u fun e w' => e = .returned (.int .i64 q) ∧ u = w') := Lib.hid (fun u k => hq ▸ find_any (h1.keep k) hR id)
  have HLe : Hid (∀ u, Below w.heap.size w u → Calls Tryz.prog 106 #[.pointer (some ⟨g, 1, none⟩), .int .i64 id, .agg (pl P).toArray] u fun e w' => e = .returned (.tuple #[]) ∧ ∃ v', Tab w' g s v' (addKs (kindsL P.1) (Rs s R) (id, P)) ∧ Step u w' g v v') := Lib.hid (fun u k => by
    obtain ⟨hh, M, m, B, p, a, c, l⟩ := P
    exact lengthen_any (h1.keep k) (rs_len8 hR) id hh M m B p a c l)
  have HBF := Lib.hid hbf
  have HQ := Lib.hid hq
  obtain ⟨Xp, hXp⟩ : ∃ Xp, Xp = pl P := ⟨_, rfl⟩
  rw [← hXp] at HSz HFi HLe
  rw [← hXp]
  clear hXp h1 hL hs hf hbf hq
  have KP := Lib.hid (Blk.new w 44 Xp.toArray)
  have HB : Hid (Below w.heap.size w (w.alloc (.cells Xp.toArray 44))) := Lib.hid (alloc_below _ _)
  go_enter Tryz.func74, Tryz.ntmps74
  go_wp2_with (refine wpList_load_mid rfl 44 (.tmp 5) rfl w.heap.size 0 rfl Xp _ (blk_whole KP.out) Tryz.underlying44 rfl HSz.out ?_)
  refine (HFi.out _ HB.out).mono ?_
  rintro e w1 ⟨rfl, b1⟩
  replace KP := Lib.hid (Blk.keep KP.out b1)
  replace HB := Lib.hid (bthen HB.out b1)
  clear b1 HFi
  cases bf with
  | false =>
    go_wp2
    go_ret2
    obtain ⟨_, _, e1, e2, e3⟩ := fits_no HBF.out R 0 id
    refine ⟨L, by rw [e1, e2]; rfl, ?_, ?_, fun b hb => Or.inl hb⟩
    · rw [e3]; exact TBl.keep ⟨v, HT0.out, HLL.out, HSS.out, HFF.out⟩ HB.out
    · exact ⟨HB.out.os, HB.out.tape, HB.out.output, HB.out.size, fun k hk _ => HB.out.block k hk⟩
  | true =>
    go_wp2_with fail
    refine (HFd.out _ HB.out).mono ?_
    rintro e w2 ⟨rfl, rfl⟩
    clear HFd
    by_cases hi : hasId R id = true
    · have q0 : 0 ≤ q := HQ.out ▸ has_find hi
      have HI := Lib.hid hi
      clear hi
      go_wp2
      go_ret2
      have e1 : tadE s R id P = 5 := by unfold tadE; rw [HBF.out, HI.out]; rfl
      have e2 : tadN s R id P = 0 := by unfold tadN; rw [e1]; rfl
      refine ⟨L, by rw [e1, e2]; rfl, ?_, ?_, fun b hb => Or.inl hb⟩
      · unfold tadR; rw [e1]; exact TBl.keep ⟨v, HT0.out, HLL.out, HSS.out, HFF.out⟩ HB.out
      · exact ⟨HB.out.os, HB.out.tape, HB.out.output, HB.out.size, fun k hk _ => HB.out.block k hk⟩
    · have hi' : hasId R id = false := by simpa using hi
      obtain rfl : q = -1 := HQ.out ▸ hasnt_find hi'
      have HI := Lib.hid hi'
      clear hi hi'
      go_upto_region 5 with fail
      refine wp_region_held_drew (S := fun w' => w'.rangeAt w.heap.size 0 Xp) (by kernel_rfl) (blk_whole (Blk.drew KP.out)) (fun hHeld => ?_)
      refine wpAnyH_take (i := 0) (v := ?_) rfl (by kernel_rfl) (by kernel_rfl) (by kernel_rfl) (fun _ _ _ h => h) (Or.inl ⟨by rfl, ?_⟩) hHeld ?_
      rotate_left
      · intro w hSw
        go_simp
        with_reducible rfl
      simp only [Act.put, List.getElem_toArray, List.getElem_cons_zero, List.setIfInBounds_toArray, List.set_cons_zero, List.set_cons_succ]
      refine wpAnyH_take (i := 1) (v := ?_) rfl (by kernel_rfl) (by kernel_rfl) (by kernel_rfl) (fun _ _ _ h => h) (Or.inl ⟨by rfl, ?_⟩) hHeld ?_
      rotate_left
      · intro w hSw
        go_simp
        with_reducible rfl
      simp only [Act.put, List.getElem_toArray, List.getElem_cons_zero, List.getElem_cons_succ, List.setIfInBounds_toArray, List.set_cons_zero, List.set_cons_succ]
      refine wpAnyH_take (i := 2) (v := ?_) rfl (by kernel_rfl) (by kernel_rfl) (by kernel_rfl) (fun _ _ _ h => h) (Or.inl ⟨by rfl, ?_⟩) hHeld ?_
      rotate_left
      · intro w hSw
        go_simp
        with_reducible rfl
      simp only [Act.put, List.getElem_toArray, List.getElem_cons_zero, List.getElem_cons_succ, List.setIfInBounds_toArray, List.set_cons_zero, List.set_cons_succ]
      refine wpAnyH_take (i := 3) (v := ?_) rfl (by kernel_rfl) (by kernel_rfl) (by kernel_rfl) (fun _ _ _ h => h) (Or.inl ⟨by rfl, ?_⟩) hHeld ?_
      rotate_left
      · intro w hSw
        go_simp
        with_reducible rfl
      simp only [Act.put, List.getElem_toArray, List.getElem_cons_zero, List.getElem_cons_succ, List.setIfInBounds_toArray, List.set_cons_zero, List.set_cons_succ]
      refine wpAnyH_take (i := 4) (v := _) rfl (by kernel_rfl) (by kernel_rfl) (by kernel_rfl) (fun _ _ _ h => h) (yieldsIf_load_mid (by rfl) _ _ rfl _ _ rfl _ _ (fun _ h => h) Tryz.underlying44 rfl HSz.out) hHeld ?_
      simp only [Act.put, List.getElem_toArray, List.getElem_cons_zero, List.getElem_cons_succ, List.setIfInBounds_toArray, List.set_cons_zero, List.set_cons_succ]
      refine wpAnyH_ready (rs := [5]) (by kernel_rfl) (by simp) ?_
      refine AllReadyH.cons rfl (fun K hK => ?_) AllReadyH.nil
      go_simp
      go_at_call 106
      refine (HLe.out _ (bdrw HB.out)).mono ?_
      rintro e w2 ⟨rfl, v2, ht, hst⟩
      have KN := Lib.hid (hst.blk (Blk.drew KP.out) HP.out)
      have hp1 : P.1 = s := by
        have := HBF.out
        unfold fitsB at this
        rw [Bool.and_eq_true, beq_iff_eq] at this
        exact this.2
      rw [hp1] at ht
      have HTN := Lib.hid (ht.ext (fun i hi => Rs_add s R (id, P) hi))
      have HSN := Lib.hid ((Step.below (g := g) (v := v) (bdrw HB.out)).trans hst)
      clear ht hst HLe hp1
      go_wp2_with fail
      refine hK.out _ _ (blk_whole KN.out) (fun hHeld => ?_)
      clear hK K
      refine wpAnyH_done (by kernel_rfl) ?_ _
      clear hHeld KN KP
      have hR' : ((R.length : Nat) : Int) ≤ 1000 := by omega
      have HLn : Hid (Calls Tryz.prog 107 #[.pointer (some ⟨g, 0, none⟩)] w2 fun e w' => e = .returned (.int .i64 ((R.length : Int) + 1)) ∧ w2 = w') := Lib.hid ((tlen_any HTN.out).mono fun _ _ k => ⟨by rw [k.1, Rs0, List.length_append]; rfl, k.2⟩)
      go_wp2_with fail
      refine HLn.out.mono ?_
      rintro e w3 ⟨rfl, rfl⟩
      clear HLn
      go_wp2
      go_ret2
      have e1 : tadE s R id P = 0 := by unfold tadE; rw [HBF.out, HI.out]; rfl
      have e2 : tadN s R id P = (R.length : Int) := by unfold tadN; rw [e1]; rfl
      have e3 : tadR s R id P = R ++ [(id, P)] := by unfold tadR; rw [e1]; rfl
      obtain ⟨o1, o2⟩ := step_out HLL.out HSN.out
      refine ⟨foot g v2, by rw [e1, e2]; rfl, ?_, o1, o2⟩
      rw [e3]
      exact ⟨v2, HTN.out, fun _ => Iff.rfl, HSS.out, fit_add HFF.out HBF.out⟩

set_option maxHeartbeats 4000000 in
set_option maxRecDepth 100000 in
theorem tcut_any (w : World) (g : Nat) (L : Nat → Prop) (s : Int) (R : TR) (row : Int) (hR : R.length ≤ 1000) (h : TBl w g L s R) :
    Calls Tryz.prog 86 #[.pointer (some ⟨g, 0, none⟩), .int .i64 row] w fun e w' => ∃ L', e = .returned (.tuple #[.int .i64 (tcuV R row), .int .i64 (tcuE R row)]) ∧ TBl w' g L' s (tcuR R row) ∧ Fr w w' L ∧ ∀ b, L' b → L b ∨ w.heap.size ≤ b := by
  have HTB := Lib.hid h
  obtain ⟨v, h1, hL, hs, hf⟩ := h
  have HLL := Lib.hid hL
  have HSS := Lib.hid hs
  have HFF := Lib.hid hf
  have hg := h1.blk.lt
  obtain ⟨bt, hbt⟩ : ∃ bt, inR R row = bt := ⟨_, rfl⟩
  have HTh : Hid (Calls Tryz.prog 78 #[.pointer (some ⟨g, 0, none⟩), .int .i64 row] w fun e w' => e = .returned (.bool bt) ∧ w = w') := Lib.hid (there_any h1 row (X := Rs s R) hbt)
  have HSh : Hid (∀ r : Nat, row = (r : Int) → Calls Tryz.prog 126 #[.pointer (some ⟨g, 1, none⟩), .int .i64 row] w fun e w' => e = .returned (.tuple #[]) ∧ ∃ v', Tab w' g s v' (fun i => cutL (Rs s R i) r) ∧ Step w w' g v v') := Lib.hid (fun r e => by rw [e]; exact shorten_any h1 (rs_len8 hR) r)
  have HBT := Lib.hid hbt
  clear h1 hL hs hf hbt
  cases bt with
  | false =>
    go_enter Tryz.func86, Tryz.ntmps86
    go_wp2_with fail
    refine HTh.out.mono ?_
    rintro e w1 ⟨rfl, rfl⟩
    go_wp2
    go_ret2
    have e1 : tcuE R row = 4 := by unfold tcuE; rw [HBT.out]; rfl
    have e2 : tcuV R row = -1 := by unfold tcuV; rw [HBT.out]; rfl
    have e3 : tcuR R row = R := by unfold tcuR; rw [HBT.out]; rfl
    refine ⟨L, by rw [e1, e2]; rfl, by rw [e3]; exact HTB.out, ⟨rfl, rfl, rfl, Nat.le_refl _, fun _ _ _ => rfl⟩, fun b hb => Or.inl hb⟩
  | true =>
    obtain ⟨r, hr, hlt⟩ := inR_nat HBT.out
    have e1 : Hid (tcuE R row = 0) := Lib.hid (by unfold tcuE; rw [HBT.out]; rfl)
    have e3 : Hid (tcuR R row = cutL R r) := Lib.hid (by unfold tcuR cutL; rw [HBT.out, if_pos hlt, hr]; rfl)
    have hcl : (cutL R r).length = R.length - 1 := by unfold cutL; rw [if_pos hlt, List.length_take, List.length_set]; omega
    have HCL := Lib.hid hcl
    have HR := Lib.hid hr
    have HRl := Lib.hid hlt
    clear hr hlt hcl
    go_enter Tryz.func86, Tryz.ntmps86
    go_wp2_with fail
    refine HTh.out.mono ?_
    rintro e w1 ⟨rfl, rfl⟩
    go_wp2_with fail
    refine (HSh.out r HR.out).mono ?_
    rintro e w1 ⟨rfl, v', ht, hst⟩
    have HTN := Lib.hid (ht.ext (fun i _ => Rs_cut s R r i))
    have HSN := Lib.hid hst
    clear ht hst HTh HSh
    have hgw : g < w1.heap.size := HTN.out.blk.lt
    by_cases hend : r + 1 < R.length
    · have HTh : Hid (Calls Tryz.prog 78 #[.pointer (some ⟨g, 0, none⟩), .int .i64 row] w1 fun e w' => e = .returned (.bool true) ∧ w1 = w') := Lib.hid (there_any HTN.out row (by
        rw [Rs0, HCL.out, HR.out]
        unfold thB
        rw [Bool.and_eq_true, decide_eq_true_eq, decide_eq_true_eq]
        omega))
      obtain ⟨gi, cap, cur, hv0, hbk, hcap, hmax, _, _⟩ := (HTN.out.own 0 (by omega)).open_ (by rw [Rs0, HCL.out]; omega)
      have hown := HTN.out.own 0 (by omega)
      rw [hv0] at hown
      have ci := range1 (ColX.range (c := cId) (k := 1) (fun _ => rfl) hown (getD_at (i := r) (by rw [Rs0, HCL.out]; omega)))
      have cc : w1.cell? ⟨g, 1, none⟩ = some (v' 0) := (HTN.out.cell (j := 0) (by omega)).1
      rw [hv0] at cc
      have hgi := hbk.lt
      have ev : tcuV R row = ((Rs s (cutL R r) 0).getD r d0).1 := by
        unfold tcuV
        rw [HBT.out, HR.out, if_pos rfl, if_pos (by omega), Rs0]
        unfold cutL
        rw [if_pos HRl.out]
        congr 1
        rw [List.getD, List.getD, List.getElem?_take, if_pos (by omega), List.getElem?_set_self HRl.out]
        rfl
      have HEv := Lib.hid ev
      obtain ⟨x, hx⟩ : ∃ x, x = ((Rs s (cutL R r) 0).getD r d0).1 := ⟨_, rfl⟩
      rw [← hx] at ci HEv
      obtain ⟨n, hn⟩ : ∃ n, n = (Rs s (cutL R r) 0).length := ⟨_, rfl⟩
      have hn' : n = R.length - 1 := by rw [hn, Rs0, HCL.out]
      rw [← hn] at cc hcap
      have r0 : (0 : Int) ≤ row := by rw [HR.out]; omega
      have r1 : row < (n : Int) := by rw [HR.out]; omega
      have r2 : row.toNat = r := by rw [HR.out]; rfl
      unfold maxLen at hmax
      clear hn hx ev hown hbk hv0 hn'
      go_wp2_with fail
      refine HTh.out.mono ?_
      rintro e w2 ⟨rfl, rfl⟩
      clear HTh
      go_wp2
      go_ret2
      obtain ⟨o1, o2⟩ := step_out HLL.out HSN.out
      refine ⟨foot g v', by rw [e1.out, HEv.out]; rfl, ?_, o1, o2⟩
      rw [e3.out]
      exact ⟨v', HTN.out, fun _ => Iff.rfl, HSS.out, fit_cut HFF.out HRl.out⟩
    · have HTh : Hid (Calls Tryz.prog 78 #[.pointer (some ⟨g, 0, none⟩), .int .i64 row] w1 fun e w' => e = .returned (.bool false) ∧ w1 = w') := Lib.hid (there_any HTN.out row (by
        rw [Rs0, HCL.out, HR.out]
        unfold thB
        rw [Bool.and_eq_false_iff]
        exact Or.inr (by rw [decide_eq_false_iff_not]; omega)))
      have ev : Hid (tcuV R row = -1) := Lib.hid (by unfold tcuV; rw [HBT.out, HR.out, if_pos rfl, if_neg (by omega)])
      clear hend
      go_wp2_with fail
      refine HTh.out.mono ?_
      rintro e w2 ⟨rfl, rfl⟩
      clear HTh
      go_wp2
      go_ret2
      obtain ⟨o1, o2⟩ := step_out HLL.out HSN.out
      refine ⟨foot g v', by rw [e1.out, ev.out]; rfl, ?_, o1, o2⟩
      rw [e3.out]
      exact ⟨v', HTN.out, fun _ => Iff.rfl, HSS.out, fit_cut HFF.out HRl.out⟩

theorem trow_any (w : World) (g : Nat) (L : Nat → Prop) (s : Int) (R : TR) (row : Int) (hR : R.length ≤ 1000) (h : TBl w g L s R) :
    Calls Tryz.prog 43 #[.pointer (some ⟨g, 0, none⟩), .int .i64 row] w fun e w' => ∃ (x : Int) (P : PT), e = .returned (.tuple #[.int .i64 x, .agg (pl P).toArray, .bool (inR R row)]) ∧ (inR R row = true → (x, P) = R.getD row.toNat d0) ∧ Below w.heap.size w w' := by
  obtain ⟨v, h1, hL, hs, hf⟩ := h
  by_cases hi : inR R row = true
  · obtain ⟨r, hr, hlt⟩ := inR_nat hi
    rw [hi, hr]
    exact (row_yes h1 (rs_len8 hR) r hlt (pl (R.getD r d0).2) (rd_row hs hlt hf) (pl_one _)).mono fun e w' k => ⟨(R.getD r d0).1, (R.getD r d0).2, k.1, fun _ => rfl, k.2⟩
  · have hi' : inR R row = false := by simpa using hi
    rw [hi']
    exact (row_no h1 row hi').mono fun e w' k => ⟨0, zT, k.1, fun c => (by cases c), k.2⟩

/-- the landed table keeps the bundle -/
theorem tc_holds : TC TBl :=
  ⟨fun w w' g L s R h he => by
      obtain ⟨v, h1, hL, h2⟩ := h
      exact ⟨v, h1.same (fun b hb => he b ((hL b).2 hb)), hL, h2⟩,
   fun w g L s R h b hb => by
      obtain ⟨v, h1, hL, _⟩ := h
      exact h1.inb b ((hL b).1 hb),
   fun w s hs => new_any w s hs,
   fun w g L s R id P hR h => tadd_any w g L s R id P hR h,
   fun w g L s R row P hR h => tput_any w g L s R row P hR h,
   fun w g L s R row hR h => tcut_any w g L s R row hR h,
   fun w g L s R row hR h => trow_any w g L s R row hR h,
   fun w g L s R id hR h => by
      obtain ⟨v, h1, _⟩ := h
      exact (find_any h1 hR id).mono fun e w' k => ⟨k.1, k.2 ▸ Below.refl _ _⟩,
   fun w g L s R hR h => by
      obtain ⟨v, h1, _⟩ := h
      exact (tlen_any h1).mono fun e w' k => ⟨k.1, k.2 ▸ Below.refl _ _⟩⟩

end Go.Proofs.YtcpgkkphibhdfaaGreat
