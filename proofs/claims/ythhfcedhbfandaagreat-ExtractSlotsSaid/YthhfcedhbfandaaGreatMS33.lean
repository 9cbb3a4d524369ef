/-
  4 texts in one file, each with its own heading.
-/
import Derived.Test.YthhfcedhbfandaaGreatMS12
import Derived.Test.YthhfcedhbfandaaGreatMS08
import Derived.Test.YthhfcedhbfandaaGreatMS32
import Derived.Maps.OwnSet
import Derived.Lib.SlKeysI
import Derived.Deep.RegionHeld3
/-
  A table as it landed: a row that is added, put, cut, read, in its columns; what Row answers.
-/
namespace Go.Proofs.YthhfcedhbfandaaGreat
open Go.RowKit

theorem kinds_mem (s : Int) {k : Nat} (hk : k < 5) : ((k : Int) ∈ kindsL s) ↔ hasN s k = true := by
  unfold kindsL
  rw [List.mem_filter, has_yes (by omega)]
  have : (k : Int) ∈ ([0, 1, 2, 3, 4] : List Int) := by
    obtain rfl | rfl | rfl | rfl | rfl : k = 0 ∨ k = 1 ∨ k = 2 ∨ k = 3 ∨ k = 4 := by omega
    all_goals decide
  simp [this]
theorem hasC_kind (s : Int) {i : Nat} (hi : i < 8) : hasC s i = true ↔ (i = 0 ∨ kC i ∈ kindsL s) := by
  have k0 := kinds_mem s (k := 0) (by omega)
  have k1 := kinds_mem s (k := 1) (by omega)
  have k2 := kinds_mem s (k := 2) (by omega)
  have k3 := kinds_mem s (k := 3) (by omega)
  rcases lt8 hi with rfl | rfl | rfl | rfl | rfl | rfl | rfl | rfl
  · simp [hasC]
  all_goals
    simp only [hasC, kC]
    simp
    first | exact k0.symm | exact k1.symm | exact k2.symm | exact k3.symm
theorem Rs_add (s : Int) (R : TR) (y : Int × PT) {i : Nat} (hi : i < 8) : addKs (kindsL s) (Rs s R) y i = Rs s (R ++ [y]) i := by
  unfold addKs Rs
  by_cases c : hasC s i = true
  · rw [if_pos ((hasC_kind s hi).1 c), if_pos c, if_pos c]
  · rw [if_neg (fun d => c ((hasC_kind s hi).2 d)), if_neg c, if_neg c]
theorem Rs_put (s : Int) (R : TR) (row : Nat) (y : Int × PT) {i : Nat} (h0 : 1 ≤ i) (hi : i < 8) : putTo (Rs s R) row y 8 i = Rs s (R.set row y) i := by
  unfold putTo Rs
  rw [if_pos ⟨h0, hi⟩]
  split
  · rfl
  · simp
theorem Rs_cut (s : Int) (R : TR) (row i : Nat) : cutL (Rs s R i) row = Rs s (cutL R row) i := by
  unfold Rs
  split
  · rfl
  · unfold cutL; rw [if_neg (by simp)]
theorem col0_put {w : World} {v : Value} {R : TR} {row : Nat} (h : Col w 0 v R) (P : PT) : Col w 0 v (R.set row ((R.getD row d0).1, P)) := by
  have e : ∀ R : TR, R.flatMap cId = (R.map Prod.fst).map (fun x => Value.int .i64 x) := fun R => by
    induction R with
    | nil => rfl
    | cons x r ih => rw [List.flatMap_cons, ih]; rfl
  have e2 : (R.set row ((R.getD row d0).1, P)).map Prod.fst = R.map Prod.fst := by
    rw [List.map_set]
    by_cases c : row < R.length
    · have : (R.getD row d0).1 = (R.map Prod.fst)[row]'(by simpa using c) := by simp [List.getD, List.getElem?_eq_getElem c]
      rw [this, List.set_getElem_self]
    · exact List.set_eq_of_length_le (by simpa using Nat.le_of_not_lt c)
  show w.ownsRow 0 _ _ v _ ((R.set row ((R.getD row d0).1, P)).flatMap cId)
  rw [e, e2, ← e, List.length_set]
  exact h
theorem tab_put {w : World} {g : Nat} {s : Int} {v : Nat → Value} {R : TR} {row : Nat} {P : PT} (h : Tab w g s v (putTo (Rs s R) row ((R.getD row d0).1, P) 8)) : Tab w g s v (Rs s (R.set row ((R.getD row d0).1, P))) :=
  ⟨h.blk, fun i hi => by
    by_cases c : i = 0
    · subst c
      exact col0_put (h.own 0 (by omega)) P
    · rw [← Rs_put s R row _ (by omega) hi]
      exact h.own i hi, h.far, h.off⟩
theorem rd_row {s : Int} {R : TR} {row : Nat} (hs : 0 ≤ s ∧ s ≤ 31) (hr : row < R.length) (hf : ∀ x ∈ R, fitsB s x.2 = true) : (rdL (Rs s R) row).set 0 (.int .i64 s) = pl (R.getD row d0).2 := by
  have hm : R.getD row d0 ∈ R := by
    have := getD_at hr
    exact List.mem_of_getElem? this
  have hfit := hf _ hm
  obtain ⟨P, hP⟩ : ∃ P, P = (R.getD row d0).2 := ⟨_, rfl⟩
  rw [← hP] at hfit ⊢
  unfold fitsB at hfit
  rw [Bool.and_eq_true, beq_iff_eq] at hfit
  have hb := right_bare hfit.1
  rw [hfit.2] at hb
  rw [← hb]
  have e1 : s % 32 = s := by omega
  have g : ∀ i, (Rs s R i).getD row d0 = if hasC s i then R.getD row d0 else d0 := fun i => by unfold Rs; split <;> rfl
  unfold rdL
  rw [g, g, g, g, g, g, g]
  show PL s _ _ _ _ _ _ _ = pl (pickT s P)
  unfold pl pickT
  simp only [e1, hP]
  unfold hasC
  cases hasN s 0 <;> cases hasN s 1 <;> cases hasN s 2 <;> cases hasN s 3 <;> rfl
theorem TBl.keep {w w' : World} {g : Nat} {L : Nat → Prop} {s : Int} {R : TR} (h : TBl w g L s R) (hb : Below w.heap.size w w') : TBl w' g L s R := by
  obtain ⟨v, h1, h2⟩ := h
  exact ⟨v, h1.keep hb, h2⟩
theorem build_zero (W : World) : (Instr.build 52 #[]).run Tryz.prog W = .ok (.agg (pl zT).toArray) W := by kernel_rfl
theorem wpList_bld0 {ops : Array Oper} {rest : List Oper} {op : Oper} {a : Go.Act} {w : World} {Q : Exit → Go.Act → World → Prop} (hgd : op.guard = none) (t : TypeId) (ho : op.op = .build t #[]) (vr : Value)
    (hrun : ∀ W, (Instr.build t #[]).run Tryz.prog W = .ok vr W)
    (h : wpList Tryz.prog ops Q rest (a.put op.dst vr) w) : wpList Tryz.prog ops Q (op :: rest) a w :=
  wpList_plain hgd fun K hK => by
    have h2 := hK _ _ h
    unfold Oper.wp execOp
    simp only [ho]
    simp [hrun]
    exact h2
theorem results_cell3 {fn : Func} {tmps : Array Value} {s r q : Tmp} {t : TypeId} {g : Nat} {v u x : Value} {w : World} (hr : fn.results = #[.tmp q, .cell s t, .tmp r]) (hp : tmps.getD s undef = .pointer (some ⟨g, 0, none⟩)) (hu : tmps.getD r undef = u) (hx : tmps.getD q undef = x) (hl : (loadVar t ⟨g, 0, none⟩).run Tryz.prog w = .ok v w) : (results fn tmps).run Tryz.prog w = .ok (.tuple #[x, v, u]) w := by
  unfold results
  rw [hr]
  have hp' : tmps[s]?.getD undef = .pointer (some ⟨g, 0, none⟩) := by simpa using hp
  have hu' : tmps[r]?.getD undef = u := by simpa using hu
  have hx' : tmps[q]?.getD undef = x := by simpa using hx
  simp [hp', hu', hx', hl, asAddr]
set_option maxHeartbeats 2000000 in
set_option maxRecDepth 100000 in
theorem row_no {g : Nat} {s : Int} {v : Nat → Value} {X : Nat → TR} {w : World} (h0 : Tab w g s v X) (row : Int) (hb : thB (X 0).length row = false) :
    Calls Tryz.prog 262 #[.pointer (some ⟨g, 0, none⟩), .int .i64 row] w fun e w' => e = .returned (.tuple #[.int .i64 0, .agg (pl zT).toArray, .bool false]) ∧ Below w.heap.size w w' := by
  have HT := Lib.hid (h0.keep (alloc_below w (.cells Z24.toArray 52)))
  have HB := Lib.hid hb
  have HBd := Lib.hid build_zero
  have HSz := Lib.hid (pl_size zT)
  have HSz' := Lib.hid (pl_size' zT)
  have HO := Lib.hid (pl_one zT)
  have HL : Hid ((pl zT).length = Z24.length) := Lib.hid rfl
  obtain ⟨Xp, hXp⟩ : ∃ Xp, Xp = pl zT := ⟨_, rfl⟩
  rw [← hXp] at HBd HSz HSz' HO HL
  rw [← hXp]
  have K5 := Lib.hid (Blk.new w 52 Z24.toArray)
  have HT5 : Hid ((w.alloc (.cells Z24.toArray 52)).there w.heap.size 0 Xp.toArray.size) := Lib.hid (blk_there K5.out (by rw [List.size_toArray, HL.out]; omega))
  have L5 : Hid (Blk ((w.alloc (.cells Z24.toArray 52)).setCells w.heap.size 0 Xp) w.heap.size 52 Xp.toArray) := Lib.hid (blk_over K5.out HL.out)
  clear hXp hb h0
  go_enter Tryz.func262, Tryz.ntmps262
  go_wp2_with fail
  refine (there_any HT.out row HB.out).mono ?_
  rintro e w1 ⟨rfl, rfl⟩
  go_wp2_with (first | refine wpList_bld0 rfl 52 rfl (.agg Xp.toArray) HBd.out ?_ | refine wpList_store_mid rfl 52 (.tmp 5) (.tmp 12) rfl w.heap.size 0 Xp.toArray rfl rfl HT5.out HSz'.out HO.out ?_)
  refine fin (fun W => Blk W w.heap.size 52 Xp.toArray ∧ Below w.heap.size w W) ⟨L5.out, below_setCells _ (alloc_below _ _) (Nat.le_refl _)⟩ ?_
  rintro W ⟨kr, hb⟩
  have hl := run_loadVar_mid W w.heap.size 0 52 Xp _ (blk_whole kr) Tryz.underlying52 rfl HSz.out
  try simp only [Go.Act.put, List.setIfInBounds_toArray, List.set_cons_zero, List.set_cons_succ]
  exact bodyPost_ret (v := .tuple #[.int .i64 0, .agg Xp.toArray, .bool false]) (results_cell3 Tryz.results262 rfl rfl rfl hl) rfl ⟨rfl, hb⟩

set_option maxHeartbeats 4000000 in
set_option maxRecDepth 100000 in
theorem row_yes {g : Nat} {s : Int} {v : Nat → Value} {X : Nat → TR} {w : World} (h0 : Tab w g s v X) (hX : ∀ i, i < 8 → (X i).length ≤ 1000) (row : Nat) (hr : row < (X 0).length) (Xp : List Value) (hXp : (rdL X row).set 0 (.int .i64 s) = Xp) (hO : Xp.toArray.all (·.oneCell') = true) :
    Calls Tryz.prog 262 #[.pointer (some ⟨g, 0, none⟩), .int .i64 row] w fun e w' => e = .returned (.tuple #[.int .i64 ((X 0).getD row d0).1, .agg Xp.toArray, .bool true]) ∧ Below w.heap.size w w' := by
  obtain ⟨gi, cap, cur, hv0, hbk, hcap, hmax, _, _⟩ := (h0.own 0 (by omega)).open_ (by omega)
  have hown := h0.own 0 (by omega)
  rw [hv0] at hown
  have ci := range1 (ColX.range (c := cId) (k := 1) (fun _ => rfl) hown (getD_at hr))
  have hlen : Xp.length = 24 := by rw [← hXp]; rfl
  have HSz : Hid ((Tryz.prog.info? 52).map (·.size) = some Xp.length) := Lib.hid (by rw [hlen]; exact size_parts 0 zI 0 zI 0 0 false 0)
  have HSz' : Hid ((Tryz.prog.info? 52).map (·.size) = some Xp.toArray.size) := Lib.hid (by rw [List.size_toArray, hlen]; exact size_parts 0 zI 0 zI 0 0 false 0)
  have HO := Lib.hid hO
  have HL := Lib.hid hlen
  have hro : (rdL X row).toArray.all (·.oneCell') = true := PL_one _ _ _ _ _ _ _ _
  have HRd : Hid (∀ u, Below w.heap.size w u → Calls Tryz.prog 289 #[.pointer (some ⟨g, 1, none⟩), .int .i64 row] u fun e w' => e = .returned (.agg (rdL X row).toArray) ∧ Below u.heap.size u w') := Lib.hid (fun u k => read_any (h0.keep k) hX row)
  have HTh : Hid (∀ u, Below w.heap.size w u → Calls Tryz.prog 247 #[.pointer (some ⟨g, 0, none⟩), .int .i64 row] u fun e w' => e = .returned (.bool true) ∧ u = w') := Lib.hid (fun u k => there_any (h0.keep k) row (by unfold thB; rw [show decide ((0 : Int) ≤ (row : Int)) = true by simp, show decide ((row : Int) < ((X 0).length : Int)) = true by simpa using hr]; rfl))
  have CC : Hid (∀ u, Below w.heap.size w u → u.cell? ⟨g, 0, none⟩ = some (.int .i64 s) ∧ u.cell? ⟨g, 1, none⟩ = some (.slice (some ⟨gi, 0, none⟩) (X 0).length cap) ∧ u.cell? ⟨gi, row, none⟩ = some (.int .i64 ((X 0).getD row d0).1)) := Lib.hid (fun u k => ⟨(h0.keep k).set0, by rw [← hv0]; exact ((h0.keep k).cell (j := 0) (by omega)).1, cell_keep ci k⟩)
  have hg := h0.blk.lt
  have hgi := hbk.lt
  have hX0 := hX 0 (by omega)
  obtain ⟨rid, hrid⟩ : ∃ rid, rid = ((X 0).getD row d0).1 := ⟨_, rfl⟩
  rw [← hrid] at CC ⊢
  obtain ⟨n, hn⟩ : ∃ n, n = (X 0).length := ⟨_, rfl⟩
  rw [← hn] at CC hr hX0 hcap
  obtain ⟨Y, hY⟩ : ∃ Y, Y = rdL X row := ⟨_, rfl⟩
  have hYl : Y.length = 24 := by rw [hY]; rfl
  have HYl := Lib.hid hYl
  rw [← hY] at HRd hXp hro
  have HYo := Lib.hid hro
  have HYz : Hid ((Tryz.prog.info? 52).map (·.size) = some Y.toArray.size) := Lib.hid (by rw [List.size_toArray, hYl]; exact size_parts 0 zI 0 zI 0 0 false 0)
  have r0 : (0 : Int) ≤ (row : Int) := by omega
  have r1 : (row : Int) < (n : Int) := by omega
  have HXp := Lib.hid hXp
  unfold maxLen at hmax
  have K5 := Lib.hid (Blk.new w 52 Z24.toArray)
  have HB5 : Hid (Below w.heap.size w (w.alloc (.cells Z24.toArray 52))) := Lib.hid (alloc_below _ _)
  clear hXp hro hY hn hrid hlen hbk ci hown hv0 h0 hX hO hYl
  go_enter Tryz.func262, Tryz.ntmps262
  go_upto_region 1 with fail
  refine fin (fun W => Blk W w.heap.size 52 Z24.toArray ∧ Below w.heap.size w W) ⟨K5.out, HB5.out⟩ ?_
  clear K5 HB5
  rintro W ⟨k5, hb⟩
  have K5 := Lib.hid k5
  have HB := Lib.hid hb
  clear k5 hb
  go_wp2_with fail
  refine (HTh.out _ HB.out).mono ?_
  rintro e w1 ⟨rfl, rfl⟩
  go_wp2_with fail
  refine (HRd.out _ HB.out).mono ?_
  rintro e w1 ⟨rfl, b1⟩
  replace K5 := Lib.hid (Blk.keep K5.out b1)
  replace HB := Lib.hid (bthen HB.out b1)
  clear b1 HTh HRd
  have hw5 : w.heap.size < w1.heap.size := K5.out.lt
  have K7 := Lib.hid (Blk.new w1 52 Z24.toArray)
  have HT7 : Hid ((w1.alloc (.cells Z24.toArray 52)).there w1.heap.size 0 Y.toArray.size) := Lib.hid (blk_there K7.out (by rw [List.size_toArray, HYl.out]; exact Nat.le_refl 24))
  have L7 : Hid (Blk ((w1.alloc (.cells Z24.toArray 52)).setCells w1.heap.size 0 Y) w1.heap.size 52 Y.toArray ∧ Blk ((w1.alloc (.cells Z24.toArray 52)).setCells w1.heap.size 0 Y) w.heap.size 52 Z24.toArray ∧ Below w.heap.size w ((w1.alloc (.cells Z24.toArray 52)).setCells w1.heap.size 0 Y)) := Lib.hid ⟨blk_over K7.out HYl.out, blk_setFar _ (K5.out.alloc _) (by omega), below_setCells _ (balloc HB.out _) (by omega)⟩
  go_upto_region 4 with (refine wpList_store_mid rfl 52 (.tmp 7) (.tmp 17) rfl w1.heap.size 0 Y.toArray rfl rfl HT7.out HYz.out HYo.out ?_)
  refine fin (fun W => Blk W w1.heap.size 52 Y.toArray ∧ Blk W w.heap.size 52 Z24.toArray ∧ Below w.heap.size w W) L7.out ?_
  obtain ⟨g7, hg7⟩ : ∃ g7, g7 = w1.heap.size := ⟨_, rfl⟩
  rw [← hg7]
  rw [← hg7] at hw5
  clear L7 HT7 K7 K5 HB hg7
  rintro W1 ⟨k7, k5, hb⟩
  obtain ⟨c0, -, -⟩ := CC.out _ hb
  obtain ⟨h70, hz70⟩ : ∃ h70, W1.cell? ⟨g7, 0, none⟩ = some h70 := by
    rw [k7.cell 0]
    exact ⟨Y[0]'(by rw [HYl.out]; omega), by simp [HYl.out]⟩
  have f70 := k7.frozen 0
  have hg7l := k7.lt
  have hgW : g < W1.heap.size := Nat.lt_of_lt_of_le hg hb.size
  have L7 : Hid (Blk (W1.setCell ⟨g7, 0, none⟩ (.int .i64 s)) g7 52 Xp.toArray ∧ Blk (W1.setCell ⟨g7, 0, none⟩ (.int .i64 s)) w.heap.size 52 Z24.toArray ∧ Below w.heap.size w (W1.setCell ⟨g7, 0, none⟩ (.int .i64 s))) := Lib.hid ⟨by
    have := k7.set_ 0 (.int .i64 s)
    rw [← HXp.out]
    simpa using this, k5.far (p := ⟨g7, 0, none⟩) (by simp; omega) _, hb.setCell (p := ⟨g7, 0, none⟩) (by simp; omega) _⟩
  clear k7 k5 hb
  go_upto_region 5 with fail
  refine fin (fun W => Blk W g7 52 Xp.toArray ∧ Blk W w.heap.size 52 Z24.toArray ∧ Below w.heap.size w W) L7.out ?_
  clear L7 c0 hz70 f70 hg7l hgW
  rintro W2 ⟨k7, k5, hb⟩
  have K7 := Lib.hid (Blk.drew k7)
  have K5 := Lib.hid (Blk.drew k5)
  have HB := Lib.hid (bdrw hb)
  have hw5' : w.heap.size < W2.heap.size := k5.lt
  clear k7 k5 hb
  refine wp_region_held_drew (S := fun w' => w'.cell? ⟨g, 1, none⟩ = some (.slice (some ⟨gi, 0, none⟩) n cap) ∧ w'.cell? ⟨gi, row, none⟩ = some (.int .i64 rid) ∧ w'.rangeAt g7 0 Xp) (by kernel_rfl) (⟨(CC.out _ HB.out).2.1, (CC.out _ HB.out).2.2, blk_whole K7.out⟩) (fun hHeld => ?_)
  refine tk 0 hHeld ?_
  refine tk 1 hHeld ?_
  refine tk 2 hHeld ?_
  refine tk 3 hHeld ?_
  refine tk 4 hHeld ?_
  refine tk 5 hHeld ?_
  refine tk 6 hHeld ?_
  refine tk 7 hHeld ?_
  refine tkl 8 rfl (yieldsIf_load_mid (by rfl) _ _ rfl _ _ rfl _ _ (fun _ h => h.2.2) Tryz.underlying52 rfl HSz.out) hHeld ?_
  refine tk 9 hHeld ?_
  have HS5 : Hid (Blk (W2.drew.setCells w.heap.size 0 Xp) w.heap.size 52 Xp.toArray) := Lib.hid (blk_over K5.out HL.out)
  refine rd 10 (fun K hK => ?_)
  rw [if_pos (by rfl)]
  refine wp_store_mid 52 _ _ rfl w.heap.size 0 Xp.toArray rfl rfl (blk_there K5.out (by rw [List.size_toArray, HL.out]; exact Nat.le_refl 24)) HSz'.out HO.out ?_
  refine hK.out _ _ ⟨(CC.out _ (below_setCells _ HB.out (Nat.le_refl _))).2.1, (CC.out _ (below_setCells _ HB.out (Nat.le_refl _))).2.2, blk_whole (blk_setFar _ K7.out (by omega))⟩ (fun hHeld => ?_)
  clear hK K
  refine tk 11 hHeld ?_
  refine wpAnyH_done (by kernel_rfl) ?_ _
  clear hHeld
  go_wp2_with fail
  refine fin (fun W => Blk W w.heap.size 52 Xp.toArray ∧ Below w.heap.size w W) ⟨HS5.out, below_setCells _ HB.out (Nat.le_refl _)⟩ ?_
  rintro W ⟨kr, hb⟩
  have hl := run_loadVar_mid W w.heap.size 0 52 Xp _ (blk_whole kr) Tryz.underlying52 rfl HSz.out
  try simp only [Go.Act.put, List.setIfInBounds_toArray, List.set_cons_zero, List.set_cons_succ]
  exact bodyPost_ret (v := .tuple #[.int .i64 rid, .agg Xp.toArray, .bool true]) (results_cell3 Tryz.results262 rfl rfl rfl hl) rfl ⟨rfl, hb⟩

theorem inR_nat {R : TR} {row : Int} (h : inR R row = true) : ∃ r : Nat, row = (r : Int) ∧ r < R.length := by
  unfold inR at h
  rw [Bool.and_eq_true, decide_eq_true_eq, decide_eq_true_eq] at h
  exact ⟨row.toNat, by omega, by omega⟩
theorem has_find {R : TR} {id : Int} (h : hasId R id = true) : 0 ≤ findI R id := by
  unfold findI
  cases hf : R.findIdx? (fun r => r.1 == id) with
  | none =>
    rw [List.findIdx?_eq_none_iff] at hf
    unfold hasId at h
    rw [List.any_eq_true] at h
    obtain ⟨x, hx, e⟩ := h
    rw [hf x hx] at e
    cases e
  | some i => exact Int.natCast_nonneg i
theorem hasnt_find {R : TR} {id : Int} (h : hasId R id = false) : findI R id = -1 := by
  unfold findI
  have : R.findIdx? (fun r => r.1 == id) = none := List.findIdx?_eq_none_iff.2 (fun x hx => by
    unfold hasId at h
    rw [List.any_eq_false] at h
    simpa using h x hx)
  rw [this]
theorem fit_set {s : Int} {R : TR} {i : Nat} {x : Int} {P : PT} (hf : ∀ x ∈ R, fitsB s x.2 = true) (hP : fitsB s P = true) : ∀ y ∈ R.set i (x, P), fitsB s y.2 = true := fun y hy => by
  rcases List.mem_or_eq_of_mem_set hy with h | h
  · exact hf y h
  · rw [h]; exact hP
theorem fit_add {s : Int} {R : TR} {x : Int} {P : PT} (hf : ∀ x ∈ R, fitsB s x.2 = true) (hP : fitsB s P = true) : ∀ y ∈ R ++ [(x, P)], fitsB s y.2 = true := fun y hy => by
  rcases List.mem_append.1 hy with h | h
  · exact hf y h
  · rw [List.mem_singleton.1 h]; exact hP
theorem fit_cut {s : Int} {R : TR} {i : Nat} (hf : ∀ x ∈ R, fitsB s x.2 = true) (hi : i < R.length) : ∀ y ∈ cutL R i, fitsB s y.2 = true := fun y hy => by
  unfold cutL at hy
  rw [if_pos hi] at hy
  rcases List.mem_or_eq_of_mem_set (List.mem_of_mem_take hy) with h | h
  · exact hf y h
  · rw [h]
    refine hf _ ?_
    exact List.mem_of_getElem? (getD_at (by omega))
theorem step_out {w w' : World} {g : Nat} {v v' : Nat → Value} {L : Nat → Prop} (hL : ∀ b, L b ↔ foot g v b) (st : Step w w' g v v') : Fr w w' L ∧ ∀ b, foot g v' b → L b ∨ w.heap.size ≤ b :=
  ⟨st.fr.of (fun b h => (hL b).2 h), fun b h => (st.new b h).imp (fun c => (hL b).2 c) id⟩
theorem rs_len8 {s : Int} {R : TR} (hR : R.length ≤ 1000) : ∀ i, i < 8 → (Rs s R i).length ≤ 1000 := fun i _ => Nat.le_trans (Rs_len s R i) hR

theorem fits_no {s : Int} {P : PT} (h : fitsB s P = false) (R : TR) (row id : Int) : tpuE s R row P = 1 ∧ tpuR s R row P = R ∧ tadE s R id P = 1 ∧ tadN s R id P = 0 ∧ tadR s R id P = R := by
  have e1 : tpuE s R row P = 1 := by unfold tpuE; rw [h]; rfl
  have e2 : tadE s R id P = 1 := by unfold tadE; rw [h]; rfl
  refine ⟨e1, ?_, e2, ?_, ?_⟩
  · unfold tpuR; rw [e1]; rfl
  · unfold tadN; rw [e2]; rfl
  · unfold tadR; rw [e2]; rfl

set_option maxHeartbeats 4000000 in
set_option maxRecDepth 100000 in
theorem tput_any (w : World) (g : Nat) (L : Nat → Prop) (s : Int) (R : TR) (row : Int) (P : PT) (hR : R.length ≤ 1000) (h : TBl w g L s R) :
    Calls Tryz.prog 273 #[.pointer (some ⟨g, 0, none⟩), .int .i64 row, .agg (pl P).toArray] w fun e w' => ∃ L', e = .returned (.int .i64 (tpuE s R row P)) ∧ TBl w' g L' s (tpuR s R row P) ∧ Fr w w' L ∧ ∀ b, L' b → L b ∨ w.heap.size ≤ b := by
  obtain ⟨v, h1, hL, hs, hf⟩ := h
  have HT0 := Lib.hid h1
  have HLL := Lib.hid hL
  have HSS := Lib.hid hs
  have HFF := Lib.hid hf
  have hg := h1.blk.lt
  have HSz := Lib.hid (pl_size P)
  have HP : Hid (¬ foot g v w.heap.size) := Lib.hid (fun c => by have := h1.inb _ c; omega)
  obtain ⟨bf, hbf⟩ : ∃ bf, fitsB s P = bf := ⟨_, rfl⟩
  have HFi : Hid (∀ u, Below w.heap.size w u → Calls Tryz.prog 240 #[.pointer (some ⟨g, 0, none⟩), .agg (pl P).toArray] u fun e w' => e = .returned (.bool bf) ∧ Below u.heap.size u w') := Lib.hid (fun u k => fits_any (h1.keep k) P hbf)
  obtain ⟨bt, hbt⟩ : ∃ bt, inR R row = bt := ⟨_, rfl⟩
  have HTh : Hid (∀ u, Below w.heap.size w u → Calls Tryz.prog 247 #[.pointer (some ⟨g, 0, none⟩), .int .i64 row] u fun e w' => e = .returned (.bool bt) ∧ u = w') := Lib.hid (fun u k => there_any (h1.keep k) row (X := Rs s R) hbt)
  have HWr : Hid (∀ u (r : Nat) (i0 : Int), Below w.heap.size w u → row = (r : Int) → Calls Tryz.prog 299 #[.pointer (some ⟨g, 1, none⟩), .int .i64 row, .agg (pl P).toArray] u fun e w' => e = .returned (.tuple #[]) ∧ Tab w' g s v (putTo (Rs s R) r (i0, P) 8) ∧ Step u w' g v v) := Lib.hid (fun u r i0 k e => by
    obtain ⟨hh, M, m, B, p, a, c, l⟩ := P
    rw [e]
    exact write_any (h1.keep k) (rs_len8 hR) r i0 hh M m B p a c l)
  have HBF := Lib.hid hbf
  have HBT := Lib.hid hbt
  obtain ⟨Xp, hXp⟩ : ∃ Xp, Xp = pl P := ⟨_, rfl⟩
  rw [← hXp] at HSz HFi HWr
  rw [← hXp]
  clear hXp h1 hL hs hf hbf hbt
  have KP := Lib.hid (Blk.new w 52 Xp.toArray)
  have HB : Hid (Below w.heap.size w (w.alloc (.cells Xp.toArray 52))) := Lib.hid (alloc_below _ _)
  go_enter Tryz.func273, Tryz.ntmps273
  go_wp2_with (refine wpList_load_mid rfl 52 (.tmp 5) rfl w.heap.size 0 rfl Xp _ (blk_whole KP.out) Tryz.underlying52 rfl HSz.out ?_)
  refine (HFi.out _ HB.out).mono ?_
  rintro e w1 ⟨rfl, b1⟩
  replace KP := Lib.hid (Blk.keep KP.out b1)
  replace HB := Lib.hid (bthen HB.out b1)
  clear b1 HFi
  cases bf with
  | false =>
    go_wp2
    go_ret
    obtain ⟨e1, e2, _⟩ := fits_no HBF.out R row 0
    refine ⟨L, by rw [e1]; rfl, ?_, ?_, fun b hb => Or.inl hb⟩
    · rw [e2]; exact TBl.keep ⟨v, HT0.out, HLL.out, HSS.out, HFF.out⟩ HB.out
    · exact ⟨HB.out.os, HB.out.tape, HB.out.output, HB.out.size, fun k hk _ => HB.out.block k hk⟩
  | true =>
    go_wp2_with fail
    refine (HTh.out _ HB.out).mono ?_
    rintro e w2 ⟨rfl, rfl⟩
    clear HTh
    cases bt with
    | false =>
      go_wp2
      go_ret
      have e1 : tpuE s R row P = 4 := by unfold tpuE; rw [HBF.out, HBT.out]; rfl
      refine ⟨L, by rw [e1]; rfl, ?_, ?_, fun b hb => Or.inl hb⟩
      · unfold tpuR; rw [e1]; exact TBl.keep ⟨v, HT0.out, HLL.out, HSS.out, HFF.out⟩ HB.out
      · exact ⟨HB.out.os, HB.out.tape, HB.out.output, HB.out.size, fun k hk _ => HB.out.block k hk⟩
    | true =>
      obtain ⟨r, hr, hlt⟩ := inR_nat HBT.out
      have HR := Lib.hid hr
      have HRl := Lib.hid hlt
      clear hr hlt
      go_upto_region 5 with fail
      refine wp_region_held_drew (S := fun w' => w'.rangeAt w.heap.size 0 Xp) (by kernel_rfl) (blk_whole (Blk.drew KP.out)) (fun hHeld => ?_)
      refine tk 0 hHeld ?_
      refine tk 1 hHeld ?_
      refine tk 2 hHeld ?_
      refine tk 3 hHeld ?_
      refine tkl 4 rfl (yieldsIf_load_mid (by rfl) _ _ rfl _ _ rfl _ _ (fun _ h => h) Tryz.underlying52 rfl HSz.out) hHeld ?_
      refine rd 5 (fun K hK => ?_)
      go_simp
      go_at_call 299
      refine (HWr.out _ r (R.getD r d0).1 (bdrw HB.out) HR.out).mono ?_
      rintro e w2 ⟨rfl, ht, hst⟩
      have KN := Lib.hid (hst.blk (Blk.drew KP.out) HP.out)
      have HTN := Lib.hid ht
      have HSN := Lib.hid ((Step.below (g := g) (v := v) (bdrw HB.out)).trans hst)
      clear ht hst HWr
      go_wp2_with fail
      refine hK.out _ _ (blk_whole KN.out) (fun hHeld => ?_)
      clear hK K
      refine wpAnyH_done (by kernel_rfl) ?_ _
      clear hHeld KN KP
      go_wp2
      go_ret
      have e1 : tpuE s R row P = 0 := by unfold tpuE; rw [HBF.out, HBT.out]; rfl
      have e2 : tpuR s R row P = R.set r ((R.getD r d0).1, P) := by unfold tpuR; rw [e1, HR.out]; rfl
      obtain ⟨o1, o2⟩ := step_out HLL.out HSN.out
      refine ⟨foot g v, by rw [e1]; rfl, ?_, o1, o2⟩
      rw [e2]
      exact ⟨v, tab_put HTN.out, fun _ => Iff.rfl, HSS.out, fit_set HFF.out HBF.out⟩

set_option maxHeartbeats 4000000 in
set_option maxRecDepth 100000 in
theorem tadd_any (w : World) (g : Nat) (L : Nat → Prop) (s : Int) (R : TR) (id : Int) (P : PT) (hR : R.length ≤ 1000) (h : TBl w g L s R) :
    Calls Tryz.prog 180 #[.pointer (some ⟨g, 0, none⟩), .int .i64 id, .agg (pl P).toArray] w fun e w' => ∃ L', e = .returned (.tuple #[.int .i64 (tadN s R id P), .int .i64 (tadE s R id P)]) ∧ TBl w' g L' s (tadR s R id P) ∧ Fr w w' L ∧ ∀ b, L' b → L b ∨ w.heap.size ≤ b := by
  obtain ⟨v, h1, hL, hs, hf⟩ := h
  have HT0 := Lib.hid h1
  have HLL := Lib.hid hL
  have HSS := Lib.hid hs
  have HFF := Lib.hid hf
  have hg := h1.blk.lt
  have HSz := Lib.hid (pl_size P)
  have HP : Hid (¬ foot g v w.heap.size) := Lib.hid (fun c => by have := h1.inb _ c; omega)
  obtain ⟨bf, hbf⟩ : ∃ bf, fitsB s P = bf := ⟨_, rfl⟩
  have HFi : Hid (∀ u, Below w.heap.size w u → Calls Tryz.prog 240 #[.pointer (some ⟨g, 0, none⟩), .agg (pl P).toArray] u fun e w' => e = .returned (.bool bf) ∧ Below u.heap.size u w') := Lib.hid (fun u k => fits_any (h1.keep k) P hbf)
  obtain ⟨q, hq⟩ : ∃ q, findI R id = q := ⟨_, rfl⟩
  have HFd : Hid (∀ u, Below w.heap.size w u → Calls Tryz.prog 241 #[.pointer (some ⟨g, 0, none⟩), .int .i64 id] u fun e w' => e = .returned (.int .i64 q) ∧ u = w') := Lib.hid (fun u k => hq ▸ find_any (h1.keep k) hR id)
  have HLe : Hid (∀ u, Below w.heap.size w u → Calls Tryz.prog 242 #[.pointer (some ⟨g, 1, none⟩), .int .i64 id, .agg (pl P).toArray] u fun e w' => e = .returned (.tuple #[]) ∧ ∃ v', Tab w' g s v' (addKs (kindsL P.1) (Rs s R) (id, P)) ∧ Step u w' g v v') := Lib.hid (fun u k => by
    obtain ⟨hh, M, m, B, p, a, c, l⟩ := P
    exact lengthen_any (h1.keep k) (rs_len8 hR) id hh M m B p a c l)
  have HBF := Lib.hid hbf
  have HQ := Lib.hid hq
  obtain ⟨Xp, hXp⟩ : ∃ Xp, Xp = pl P := ⟨_, rfl⟩
  rw [← hXp] at HSz HFi HLe
  rw [← hXp]
  clear hXp h1 hL hs hf hbf hq
  have KP := Lib.hid (Blk.new w 52 Xp.toArray)
  have HB : Hid (Below w.heap.size w (w.alloc (.cells Xp.toArray 52))) := Lib.hid (alloc_below _ _)
  go_enter Tryz.func180, Tryz.ntmps180
  go_wp2_with (refine wpList_load_mid rfl 52 (.tmp 5) rfl w.heap.size 0 rfl Xp _ (blk_whole KP.out) Tryz.underlying52 rfl HSz.out ?_)
  refine (HFi.out _ HB.out).mono ?_
  rintro e w1 ⟨rfl, b1⟩
  replace KP := Lib.hid (Blk.keep KP.out b1)
  replace HB := Lib.hid (bthen HB.out b1)
  clear b1 HFi
  cases bf with
  | false =>
    go_wp2
    go_ret2
    obtain ⟨_, _, e1, e2, e3⟩ := fits_no HBF.out R 0 id
    refine ⟨L, by rw [e1, e2]; rfl, ?_, ?_, fun b hb => Or.inl hb⟩
    · rw [e3]; exact TBl.keep ⟨v, HT0.out, HLL.out, HSS.out, HFF.out⟩ HB.out
    · exact ⟨HB.out.os, HB.out.tape, HB.out.output, HB.out.size, fun k hk _ => HB.out.block k hk⟩
  | true =>
    go_wp2_with fail
    refine (HFd.out _ HB.out).mono ?_
    rintro e w2 ⟨rfl, rfl⟩
    clear HFd
    by_cases hi : hasId R id = true
    · have q0 : 0 ≤ q := HQ.out ▸ has_find hi
      have HI := Lib.hid hi
      clear hi
      go_wp2
      go_ret2
      have e1 : tadE s R id P = 5 := by unfold tadE; rw [HBF.out, HI.out]; rfl
      have e2 : tadN s R id P = 0 := by unfold tadN; rw [e1]; rfl
      refine ⟨L, by rw [e1, e2]; rfl, ?_, ?_, fun b hb => Or.inl hb⟩
      · unfold tadR; rw [e1]; exact TBl.keep ⟨v, HT0.out, HLL.out, HSS.out, HFF.out⟩ HB.out
      · exact ⟨HB.out.os, HB.out.tape, HB.out.output, HB.out.size, fun k hk _ => HB.out.block k hk⟩
    · have hi' : hasId R id = false := by simpa using hi
      obtain rfl : q = -1 := HQ.out ▸ hasnt_find hi'
      have HI := Lib.hid hi'
      clear hi hi'
      go_upto_region 5 with fail
      refine wp_region_held_drew (S := fun w' => w'.rangeAt w.heap.size 0 Xp) (by kernel_rfl) (blk_whole (Blk.drew KP.out)) (fun hHeld => ?_)
      refine tk 0 hHeld ?_
      refine tk 1 hHeld ?_
      refine tk 2 hHeld ?_
      refine tk 3 hHeld ?_
      refine tkl 4 rfl (yieldsIf_load_mid (by rfl) _ _ rfl _ _ rfl _ _ (fun _ h => h) Tryz.underlying52 rfl HSz.out) hHeld ?_
      refine rd 5 (fun K hK => ?_)
      go_simp
      go_at_call 242
      refine (HLe.out _ (bdrw HB.out)).mono ?_
      rintro e w2 ⟨rfl, v2, ht, hst⟩
      have KN := Lib.hid (hst.blk (Blk.drew KP.out) HP.out)
      have hp1 : P.1 = s := by
        have := HBF.out
        unfold fitsB at this
        rw [Bool.and_eq_true, beq_iff_eq] at this
        exact this.2
      rw [hp1] at ht
      have HTN := Lib.hid (ht.ext (fun i hi => Rs_add s R (id, P) hi))
      have HSN := Lib.hid ((Step.below (g := g) (v := v) (bdrw HB.out)).trans hst)
      clear ht hst HLe hp1
      go_wp2_with fail
      refine hK.out _ _ (blk_whole KN.out) (fun hHeld => ?_)
      clear hK K
      refine wpAnyH_done (by kernel_rfl) ?_ _
      clear hHeld KN KP
      have hR' : ((R.length : Nat) : Int) ≤ 1000 := by omega
      have HLn : Hid (Calls Tryz.prog 243 #[.pointer (some ⟨g, 0, none⟩)] w2 fun e w' => e = .returned (.int .i64 ((R.length : Int) + 1)) ∧ w2 = w') := Lib.hid ((tlen_any HTN.out).mono fun _ _ k => ⟨by rw [k.1, Rs0, List.length_append]; rfl, k.2⟩)
      go_wp2_with fail
      refine HLn.out.mono ?_
      rintro e w3 ⟨rfl, rfl⟩
      clear HLn
      go_wp2
      go_ret2
      have e1 : tadE s R id P = 0 := by unfold tadE; rw [HBF.out, HI.out]; rfl
      have e2 : tadN s R id P = (R.length : Int) := by unfold tadN; rw [e1]; rfl
      have e3 : tadR s R id P = R ++ [(id, P)] := by unfold tadR; rw [e1]; rfl
      obtain ⟨o1, o2⟩ := step_out HLL.out HSN.out
      refine ⟨foot g v2, by rw [e1, e2]; rfl, ?_, o1, o2⟩
      rw [e3]
      exact ⟨v2, HTN.out, fun _ => Iff.rfl, HSS.out, fit_add HFF.out HBF.out⟩

set_option maxHeartbeats 4000000 in
set_option maxRecDepth 100000 in
theorem tcut_any (w : World) (g : Nat) (L : Nat → Prop) (s : Int) (R : TR) (row : Int) (hR : R.length ≤ 1000) (h : TBl w g L s R) :
    Calls Tryz.prog 186 #[.pointer (some ⟨g, 0, none⟩), .int .i64 row] w fun e w' => ∃ L', e = .returned (.tuple #[.int .i64 (tcuV R row), .int .i64 (tcuE R row)]) ∧ TBl w' g L' s (tcuR R row) ∧ Fr w w' L ∧ ∀ b, L' b → L b ∨ w.heap.size ≤ b := by
  have HTB := Lib.hid h
  obtain ⟨v, h1, hL, hs, hf⟩ := h
  have HLL := Lib.hid hL
  have HSS := Lib.hid hs
  have HFF := Lib.hid hf
  have hg := h1.blk.lt
  obtain ⟨bt, hbt⟩ : ∃ bt, inR R row = bt := ⟨_, rfl⟩
  have HTh : Hid (Calls Tryz.prog 247 #[.pointer (some ⟨g, 0, none⟩), .int .i64 row] w fun e w' => e = .returned (.bool bt) ∧ w = w') := Lib.hid (there_any h1 row (X := Rs s R) hbt)
  have HSh : Hid (∀ r : Nat, row = (r : Int) → Calls Tryz.prog 248 #[.pointer (some ⟨g, 1, none⟩), .int .i64 row] w fun e w' => e = .returned (.tuple #[]) ∧ ∃ v', Tab w' g s v' (fun i => cutL (Rs s R i) r) ∧ Step w w' g v v') := Lib.hid (fun r e => by rw [e]; exact shorten_any h1 (rs_len8 hR) r)
  have HBT := Lib.hid hbt
  clear h1 hL hs hf hbt
  cases bt with
  | false =>
    go_enter Tryz.func186, Tryz.ntmps186
    go_wp2_with fail
    refine HTh.out.mono ?_
    rintro e w1 ⟨rfl, rfl⟩
    go_wp2
    go_ret2
    have e1 : tcuE R row = 4 := by unfold tcuE; rw [HBT.out]; rfl
    have e2 : tcuV R row = -1 := by unfold tcuV; rw [HBT.out]; rfl
    have e3 : tcuR R row = R := by unfold tcuR; rw [HBT.out]; rfl
    refine ⟨L, by rw [e1, e2]; rfl, by rw [e3]; exact HTB.out, ⟨rfl, rfl, rfl, Nat.le_refl _, fun _ _ _ => rfl⟩, fun b hb => Or.inl hb⟩
  | true =>
    obtain ⟨r, hr, hlt⟩ := inR_nat HBT.out
    have e1 : Hid (tcuE R row = 0) := Lib.hid (by unfold tcuE; rw [HBT.out]; rfl)
    have e3 : Hid (tcuR R row = cutL R r) := Lib.hid (by unfold tcuR cutL; rw [HBT.out, if_pos hlt, hr]; rfl)
    have hcl : (cutL R r).length = R.length - 1 := by unfold cutL; rw [if_pos hlt, List.length_take, List.length_set]; omega
    have HCL := Lib.hid hcl
    have HR := Lib.hid hr
    have HRl := Lib.hid hlt
    clear hr hlt hcl
    go_enter Tryz.func186, Tryz.ntmps186
    go_wp2_with fail
    refine HTh.out.mono ?_
    rintro e w1 ⟨rfl, rfl⟩
    go_wp2_with fail
    refine (HSh.out r HR.out).mono ?_
    rintro e w1 ⟨rfl, v', ht, hst⟩
    have HTN := Lib.hid (ht.ext (fun i _ => Rs_cut s R r i))
    have HSN := Lib.hid hst
    clear ht hst HTh HSh
    have hgw : g < w1.heap.size := HTN.out.blk.lt
    by_cases hend : r + 1 < R.length
    · have HTh : Hid (Calls Tryz.prog 247 #[.pointer (some ⟨g, 0, none⟩), .int .i64 row] w1 fun e w' => e = .returned (.bool true) ∧ w1 = w') := Lib.hid (there_any HTN.out row (by
        rw [Rs0, HCL.out, HR.out]
        unfold thB
        rw [Bool.and_eq_true, decide_eq_true_eq, decide_eq_true_eq]
        omega))
      obtain ⟨gi, cap, cur, hv0, hbk, hcap, hmax, _, _⟩ := (HTN.out.own 0 (by omega)).open_ (by rw [Rs0, HCL.out]; omega)
      have hown := HTN.out.own 0 (by omega)
      rw [hv0] at hown
      have ci := range1 (ColX.range (c := cId) (k := 1) (fun _ => rfl) hown (getD_at (i := r) (by rw [Rs0, HCL.out]; omega)))
      have cc : w1.cell? ⟨g, 1, none⟩ = some (v' 0) := (HTN.out.cell (j := 0) (by omega)).1
      rw [hv0] at cc
      have hgi := hbk.lt
      have ev : tcuV R row = ((Rs s (cutL R r) 0).getD r d0).1 := by
        unfold tcuV
        rw [HBT.out, HR.out, if_pos rfl, if_pos (by omega), Rs0]
        unfold cutL
        rw [if_pos HRl.out]
        congr 1
        rw [List.getD, List.getD, List.getElem?_take, if_pos (by omega), List.getElem?_set_self HRl.out]
        rfl
      have HEv := Lib.hid ev
      obtain ⟨x, hx⟩ : ∃ x, x = ((Rs s (cutL R r) 0).getD r d0).1 := ⟨_, rfl⟩
      rw [← hx] at ci HEv
      obtain ⟨n, hn⟩ : ∃ n, n = (Rs s (cutL R r) 0).length := ⟨_, rfl⟩
      have hn' : n = R.length - 1 := by rw [hn, Rs0, HCL.out]
      rw [← hn] at cc hcap
      have r0 : (0 : Int) ≤ row := by rw [HR.out]; omega
      have r1 : row < (n : Int) := by rw [HR.out]; omega
      have r2 : row.toNat = r := by rw [HR.out]; rfl
      unfold maxLen at hmax
      clear hn hx ev hown hbk hv0 hn'
      go_wp2_with fail
      refine HTh.out.mono ?_
      rintro e w2 ⟨rfl, rfl⟩
      clear HTh
      go_wp2
      go_ret2
      obtain ⟨o1, o2⟩ := step_out HLL.out HSN.out
      refine ⟨foot g v', by rw [e1.out, HEv.out]; rfl, ?_, o1, o2⟩
      rw [e3.out]
      exact ⟨v', HTN.out, fun _ => Iff.rfl, HSS.out, fit_cut HFF.out HRl.out⟩
    · have HTh : Hid (Calls Tryz.prog 247 #[.pointer (some ⟨g, 0, none⟩), .int .i64 row] w1 fun e w' => e = .returned (.bool false) ∧ w1 = w') := Lib.hid (there_any HTN.out row (by
        rw [Rs0, HCL.out, HR.out]
        unfold thB
        rw [Bool.and_eq_false_iff]
        exact Or.inr (by rw [decide_eq_false_iff_not]; omega)))
      have ev : Hid (tcuV R row = -1) := Lib.hid (by unfold tcuV; rw [HBT.out, HR.out, if_pos rfl, if_neg (by omega)])
      clear hend
      go_wp2_with fail
      refine HTh.out.mono ?_
      rintro e w2 ⟨rfl, rfl⟩
      clear HTh
      go_wp2
      go_ret2
      obtain ⟨o1, o2⟩ := step_out HLL.out HSN.out
      refine ⟨foot g v', by rw [e1.out, ev.out]; rfl, ?_, o1, o2⟩
      rw [e3.out]
      exact ⟨v', HTN.out, fun _ => Iff.rfl, HSS.out, fit_cut HFF.out HRl.out⟩

theorem trow_any (w : World) (g : Nat) (L : Nat → Prop) (s : Int) (R : TR) (row : Int) (hR : R.length ≤ 1000) (h : TBl w g L s R) :
    Calls Tryz.prog 262 #[.pointer (some ⟨g, 0, none⟩), .int .i64 row] w fun e w' => ∃ (x : Int) (P : PT), e = .returned (.tuple #[.int .i64 x, .agg (pl P).toArray, .bool (inR R row)]) ∧ (inR R row = true → (x, P) = R.getD row.toNat d0) ∧ Below w.heap.size w w' := by
  obtain ⟨v, h1, hL, hs, hf⟩ := h
  by_cases hi : inR R row = true
  · obtain ⟨r, hr, hlt⟩ := inR_nat hi
    rw [hi, hr]
    exact (row_yes h1 (rs_len8 hR) r hlt (pl (R.getD r d0).2) (rd_row hs hlt hf) (pl_one _)).mono fun e w' k => ⟨(R.getD r d0).1, (R.getD r d0).2, k.1, fun _ => rfl, k.2⟩
  · have hi' : inR R row = false := by simpa using hi
    rw [hi']
    exact (row_no h1 row hi').mono fun e w' k => ⟨0, zT, k.1, fun c => (by cases c), k.2⟩

theorem tc_holds : TC TBl :=
  ⟨fun w w' g L s R h he => by
      obtain ⟨v, h1, hL, h2⟩ := h
      exact ⟨v, h1.same (fun b hb => he b ((hL b).2 hb)), hL, h2⟩,
   fun w g L s R h b hb => by
      obtain ⟨v, h1, hL, _⟩ := h
      exact h1.inb b ((hL b).1 hb),
   fun w s hs => new_any w s hs,
   fun w g L s R id P hR h => tadd_any w g L s R id P hR h,
   fun w g L s R row P hR h => tput_any w g L s R row P hR h,
   fun w g L s R row hR h => tcut_any w g L s R row hR h,
   fun w g L s R row hR h => trow_any w g L s R row hR h,
   fun w g L s R id hR h => by
      obtain ⟨v, h1, _⟩ := h
      exact (find_any h1 hR id).mono fun e w' k => ⟨k.1, k.2 ▸ Below.refl _ _⟩,
   fun w g L s R hR h => by
      obtain ⟨v, h1, _⟩ := h
      exact (tlen_any h1).mono fun e w' k => ⟨k.1, k.2 ▸ Below.refl _ _⟩⟩

def mkG (m : Int × Int) : Int × PT := (m.1, m.2, zI, 0, zI, 0, 0, false, 0)
def cG (x : Int × PT) : List Value := [.int .i64 x.1, .int .i64 x.2.1]
def ColG (w : World) (v : Value) (l : List (Int × Int)) : Prop := ColX w 196 2 cG v (l.map mkG)
def lF (p mb : Nat) (now : Int) (ls lt : Nat → Int) (gv : Value) (j : Nat) : Value :=
  if j = 0 then .pointer (some ⟨p, 0, none⟩) else if j = 1 then .map (some mb) else if j = 2 then .int .i64 now else if j < 515 then (if j % 2 = 1 then .int .i64 (ls ((j - 3) / 2)) else .int .i64 (lt ((j - 4) / 2))) else gv
section
variable {p mb : Nat} {now : Int} {ls lt : Nat → Int} {gv : Value} {k : Nat}
theorem lF_set (hk : k < 256) : lF p mb now ls lt gv (3 + k * 2) = .int .i64 (ls k) := by
  unfold lF
  rw [if_neg (by omega), if_neg (by omega), if_neg (by omega), if_pos (by omega), if_pos (by omega), show (3 + k * 2 - 3) / 2 = k by omega]
theorem lF_tick (hk : k < 256) : lF p mb now ls lt gv (3 + k * 2 + 1) = .int .i64 (lt k) := by
  unfold lF
  rw [if_neg (by omega), if_neg (by omega), if_neg (by omega), if_pos (by omega), if_neg (by omega), show (3 + k * 2 + 1 - 4) / 2 = k by omega]
theorem lF_upTick (hk : k < 256) (v : Int) (j : Nat) : (if j = 3 + k * 2 + 1 then .int .i64 v else lF p mb now ls lt gv j) = lF p mb now ls (upf lt k v) gv j := by
  unfold lF upf
  by_cases c : j = 3 + k * 2 + 1
  · rw [if_pos c, if_neg (by omega), if_neg (by omega), if_neg (by omega), if_pos (by omega), if_neg (by omega), if_pos (by omega)]
  · rw [if_neg c]
    by_cases c0 : j = 0
    · rw [if_pos c0, if_pos c0]
    · rw [if_neg c0, if_neg c0]
      by_cases c1 : j = 1
      · rw [if_pos c1, if_pos c1]
      · rw [if_neg c1, if_neg c1]
        by_cases c2 : j = 2
        · rw [if_pos c2, if_pos c2]
        · rw [if_neg c2, if_neg c2]
          by_cases c3 : j < 515
          · rw [if_pos c3, if_pos c3]
            by_cases c4 : j % 2 = 1
            · rw [if_pos c4, if_pos c4]
            · rw [if_neg c4, if_neg c4, if_neg (by omega)]
          · rw [if_neg c3, if_neg c3]
theorem lF_upSet (hk : k < 256) (v : Int) (j : Nat) : (if j = 3 + k * 2 then .int .i64 v else lF p mb now ls lt gv j) = lF p mb now (upf ls k v) lt gv j := by
  unfold lF upf
  by_cases c : j = 3 + k * 2
  · rw [if_pos c, if_neg (by omega), if_neg (by omega), if_neg (by omega), if_pos (by omega), if_pos (by omega), if_pos (by omega)]
  · rw [if_neg c]
    by_cases c0 : j = 0
    · rw [if_pos c0, if_pos c0]
    · rw [if_neg c0, if_neg c0]
      by_cases c1 : j = 1
      · rw [if_pos c1, if_pos c1]
      · rw [if_neg c1, if_neg c1]
        by_cases c2 : j = 2
        · rw [if_pos c2, if_pos c2]
        · rw [if_neg c2, if_neg c2]
          by_cases c3 : j < 515
          · rw [if_pos c3, if_pos c3]
            by_cases c4 : j % 2 = 1
            · rw [if_pos c4, if_pos c4, if_neg (by omega)]
            · rw [if_neg c4, if_neg c4]
          · rw [if_neg c3, if_neg c3]
theorem lF_upNow (v : Int) (j : Nat) : (if j = 2 then .int .i64 v else lF p mb now ls lt gv j) = lF p mb v ls lt gv j := by
  unfold lF
  by_cases c : j = 2
  · rw [if_pos c, if_neg (by omega), if_neg (by omega), if_pos c]
  · rw [if_neg c, if_neg c, if_neg c]
theorem lF_upGo (v : Value) (j : Nat) (hj : j < 516) : (if j = 515 then v else lF p mb now ls lt gv j) = lF p mb now ls lt v j := by
  unfold lF
  by_cases c : j = 515
  · rw [if_pos c, if_neg (by omega), if_neg (by omega), if_neg (by omega), if_neg (by omega)]
  · rw [if_neg c]
    by_cases c3 : j < 515
    · rw [if_pos c3, if_pos c3]
    · omega
end

def tV : Option Nat → Value
  | some b => .pointer (some ⟨b, 0, none⟩)
  | none => .pointer none
def tD : Option Nat → DataW Unit
  | some b => .lit (.int .i64 b)
  | none => .nil
def tR : Value → Option (DataW Unit × List MemPlace)
  | .pointer none => some (.nil, [])
  | .pointer (some a) => if a = ⟨a.block, 0, none⟩ then some (.lit (.int .i64 a.block), []) else none
  | _ => none
theorem tR_V (o : Option Nat) : tR (tV o) = some (tD o, []) := by cases o <;> simp [tV, tD, tR]
theorem tR_inv {v : Value} {o : Option Nat} {ps : List MemPlace} (h : tR v = some (tD o, ps)) : v = tV o := by
  unfold tR at h
  split at h
  · cases o
    · rfl
    · simp [tD] at h
  · rename_i a
    by_cases c : a = ⟨a.block, 0, none⟩
    · rw [if_pos c] at h
      cases o with
      | none => simp [tD] at h
      | some b =>
        simp [tD] at h
        have : a.block = b := by omega
        unfold tV
        rw [c, this]
    · rw [if_neg c] at h
      cases h
  · cases h
theorem set_law : Go.Maps.Keyed Tryz.prog 43 := Go.Maps.int_keyed Tryz.underlying43
theorem zv_tab (w : World) : (zeroValue 271).run Tryz.prog w = .ok (.pointer none) w := by kernel_rfl
theorem set_key {i : Nat} (hi : i < 32) : keyOf Tryz.prog 43 (.int .i64 i) = some (.int .i64 i) := by
  refine Go.Maps.keyOf_int_mk Tryz.underlying43 ?_
  have h : decide (IntKind.i64.min ≤ (i : Int)) = true := decide_eq_true (by show (-9223372036854775808 : Int) ≤ _; omega)
  have h' : decide ((i : Int) ≤ IntKind.i64.max) = true := decide_eq_true (by show _ ≤ (9223372036854775807 : Int); omega)
  show (decide (IntKind.i64.min ≤ (i : Int)) && decide ((i : Int) ≤ IntKind.i64.max)) = true
  rw [h, h']
  rfl
def tsK (ts : Nat → Option Nat) : List Int := ((List.range 32).filter fun i => (ts i).isSome).map fun (i : Nat) => (i : Int)
theorem tsK_mem {ts : Nat → Option Nat} {x : Int} : x ∈ tsK ts ↔ ∃ i : Nat, i < 32 ∧ (ts i).isSome = true ∧ x = (i : Int) := by
  unfold tsK
  rw [List.mem_map]
  constructor
  · rintro ⟨i, hi, rfl⟩
    rw [List.mem_filter, List.mem_range] at hi
    exact ⟨i, hi.1, hi.2, rfl⟩
  · rintro ⟨i, hi, hs, rfl⟩
    exact ⟨i, by rw [List.mem_filter, List.mem_range]; exact ⟨hi, hs⟩, rfl⟩
theorem tsK_lt (ts : Nat → Option Nat) : (tsK ts).Pairwise (· < ·) := by
  unfold tsK
  refine List.pairwise_map.2 ((List.Pairwise.filter _ List.pairwise_lt_range).imp fun {a b} h => ?_)
  omega
theorem tsK_len (ts : Nat → Option Nat) : (tsK ts).length ≤ 32 := by
  unfold tsK
  rw [List.length_map]
  have := List.length_filter_le (fun i => (ts i).isSome) (List.range 32)
  rwa [List.length_range] at this
def TK (D : DataW Unit) (ts : Nat → Option Nat) : Prop := (∀ i : Nat, i < 32 → D.atKey (.int .i64 i) .nil = tD (ts i) ∧ Maps.has D (.int .i64 i) = (ts i).isSome) ∧ ∀ x : Int, Maps.has D (.int .i64 x) = true → 0 ≤ x ∧ x < 32
def TM (w : World) (mb : Nat) (ts : Nat → Option Nat) : Prop := ∃ D : DataW Unit, w.ownsMap Tryz.prog 43 tR mb 32 D ∧ TK D ts
theorem TK.keys {w : World} {mb n : Nat} {ts : Nat → Option Nat} {D : DataW Unit} (hw : w.ownsMap Tryz.prog 43 tR mb n D) (h : TK D ts) : (tsK ts).Perm (intKeys D) := by
  refine CollectedI.perm (left := fun _ => false) ⟨(tsK_lt ts).imp (fun {a b} c => by omega), fun x => ?_⟩ hw set_law Tryz.underlying43 (fun _ => rfl)
  rw [tsK_mem]
  constructor
  · rintro ⟨i, hi, hs, rfl⟩
    exact ⟨by rw [(h.1 i hi).2]; exact hs, rfl⟩
  · rintro ⟨hx, _⟩
    obtain ⟨h0, h1⟩ := h.2 x hx
    obtain ⟨i, rfl⟩ : ∃ i : Nat, x = (i : Int) := ⟨x.toNat, by omega⟩
    have hi : i < 32 := by omega
    exact ⟨i, hi, by rw [← (h.1 i hi).2]; exact hx, rfl⟩
theorem TK.size {w : World} {mb n : Nat} {ts : Nat → Option Nat} {D : DataW Unit} (hw : w.ownsMap Tryz.prog 43 tR mb n D) (h : TK D ts) : Maps.size D ≤ 32 := by
  have hp := (h.keys hw).length_eq
  have hl := tsK_len ts
  obtain ⟨es, rfl, _⟩ := hw.entries set_law
  unfold intKeys at hp
  rw [List.length_map] at hp
  rw [Maps.size_eq]
  omega
theorem own_size {w : World} {mb n m : Nat} {D : DataW Unit} (hw : w.ownsMap Tryz.prog 43 tR mb n D) (h : Maps.size D ≤ m) : w.ownsMap Tryz.prog 43 tR mb m D := by
  obtain ⟨es, clock, hb, F, hs, hD⟩ := hw
  refine ⟨es, clock, hb, F, ?_, hD⟩
  have e1 : Maps.size D = es.size := by rw [hD]; simp [Maps.size, length_sorted]
  omega
theorem TM.lt {w : World} {mb : Nat} {ts : Nat → Option Nat} (h : TM w mb ts) : mb < w.heap.size := by
  obtain ⟨D, hD, _⟩ := h
  exact hD.lt
theorem TM.same {w w' : World} {mb : Nat} {ts : Nat → Option Nat} (h : TM w mb ts) (he : w'.heap[mb]? = w.heap[mb]?) : TM w' mb ts := by
  obtain ⟨D, ⟨es, clock, hb, F, hs, hD⟩, hk⟩ := h
  exact ⟨D, ⟨es, clock, he.trans hb, F, hs, hD⟩, hk⟩
theorem TM.new (w : World) : TM (w.alloc (.map #[] 0)) w.heap.size (fun _ => none) :=
  ⟨.map [], (World.ownsMap_made w _ _ _).mono (by omega), fun _ _ => ⟨rfl, rfl⟩, fun x h => by cases h⟩
theorem TM.get {w : World} {mb : Nat} {ts : Nat → Option Nat} (h : TM w mb ts) {i : Nat} (hi : i < 32) : (Instr.lookup 132 (.map (some mb)) (.int .i64 i) false).run Tryz.prog w = .ok (tV (ts i)) w := by
  obtain ⟨D, hD, hk⟩ := h
  obtain ⟨v, ps, hrun, hv⟩ := hD.lookup set_law Tryz.underlying132 (zv_tab w) (zd := .nil) (zp := []) rfl (set_key hi)
  rw [(hk.1 i hi).1] at hv
  rw [hrun, tR_inv hv]
theorem TM.put {w : World} {mb : Nat} {ts : Nat → Option Nat} (h : TM w mb ts) {i : Nat} (hi : i < 32) (b : Nat) :
    ∃ w', (Instr.mapUpdate 132 (.map (some mb)) (.int .i64 i) (.pointer (some ⟨b, 0, none⟩))).run Tryz.prog w = .ok () w' ∧ TM w' mb (upf ts i (some b)) ∧ w.grownBy w' (some mb) := by
  obtain ⟨D, hD, hk⟩ := h
  obtain ⟨w', hrun, h1, h2⟩ := hD.update set_law Tryz.underlying132 (by unfold maxLen; omega) (set_key hi) (tR_V (some b))
  have hm : Maps.IsMap D := hD.isMap
  have hK : WideAt.IsKeyLit (.int .i64 (i : Int)) := trivial
  have hne : ∀ {x : Int}, x ≠ (i : Int) → (Lit.int .i64 x) ≠ .int .i64 (i : Int) := fun hx e => by injection e with _ e; exact hx e
  have hk' : TK (D.put (.int .i64 (i : Int)) (tD (some b))) (upf ts i (some b)) := by
    refine ⟨fun j hj => ?_, fun x hx => ?_⟩
    · by_cases c : j = i
      · subst c
        have e : upf ts j (some b) j = some b := by unfold upf; rw [if_pos rfl]
        rw [e, Maps.atKey_put_same hm hK, Maps.has_put_same hm hK]
        exact ⟨rfl, rfl⟩
      · have e : upf ts i (some b) j = ts j := by unfold upf; rw [if_neg c]
        have hx : ((j : Nat) : Int) ≠ (i : Int) := by omega
        rw [e, Maps.atKey_put_other (hne hx), Maps.has_put_other (hne hx)]
        exact hk.1 j hj
    · by_cases c : x = (i : Int)
      · omega
      · rw [Maps.has_put_other (hne c)] at hx
        exact hk.2 x hx
  exact ⟨w', hrun, ⟨_, own_size h1 (hk'.size h1), hk'⟩, h2⟩

def TO (w : World) (o : Option Nat) (L : Nat → Prop) (i : Nat) (R : TR) : Prop := match o with
  | some b => TBl w b L i R
  | none => R = [] ∧ ∀ b, ¬ L b
structure LM (w : World) (g : Nat) (S : St) (p mb : Nat) (ls lt : Nat → Int) (ts : Nat → Option Nat) (Lf : Nat → Nat → Prop) (gv : Value) (lab : Nat → Nat) : Prop where
  row : w.rowIs g 138 516 (lF p mb S.now ls lt gv)
  pool : w.rowIs p 189 513 (poolF S.room S.G S.L)
  map : TM w mb ts
  tab : ∀ i, i < 32 → TO w (ts i) (Lf i) i (S.T i)
  gos : ColG w gv S.go
  lg : lab g = 0
  lp : lab p = 1
  lm : lab mb = 2
  lv : ∀ b, gv.ownBlock = some b → lab b = 3
  lT : ∀ i, i < 32 → ∀ b, Lf i b → lab b = 4 + i
def lfoot (g p mb : Nat) (Lf : Nat → Nat → Prop) (gv : Value) (b : Nat) : Prop := b = g ∨ b = p ∨ b = mb ∨ gv.ownBlock = some b ∨ ∃ i, i < 32 ∧ Lf i b
theorem TO.inb {w : World} {o : Option Nat} {L : Nat → Prop} {i : Nat} {R : TR} (h : TO w o L i R) : ∀ b, L b → b < w.heap.size := by
  cases o with
  | none => exact fun b c => absurd c (h.2 b)
  | some a => exact fun b c => tc_holds.2.1 w a L i R h b c
theorem TO.same {w w' : World} {o : Option Nat} {L : Nat → Prop} {i : Nat} {R : TR} (h : TO w o L i R) (he : ∀ b, L b → w'.heap[b]? = w.heap[b]?) : TO w' o L i R := by
  cases o with
  | none => exact h
  | some a => exact tc_holds.1 w w' a L i R h he
section
variable {w w' : World} {g p mb : Nat} {S : St} {ls lt : Nat → Int} {ts : Nat → Option Nat} {Lf : Nat → Nat → Prop} {gv : Value} {lab : Nat → Nat}
theorem LM.inb (h : LM w g S p mb ls lt ts Lf gv lab) : ∀ b, lfoot g p mb Lf gv b → b < w.heap.size := by
  rintro b (rfl | rfl | rfl | e | ⟨i, hi, e⟩)
  · exact h.row.lt
  · exact h.pool.lt
  · exact h.map.lt
  · exact (World.ownsRow.lt h.gos b e).2
  · exact (h.tab i hi).inb b e
theorem LM.same (h : LM w g S p mb ls lt ts Lf gv lab) (he : ∀ b, lfoot g p mb Lf gv b → w'.heap[b]? = w.heap[b]?) : LM w' g S p mb ls lt ts Lf gv lab :=
  ⟨h.row.of_block (he g (Or.inl rfl)), h.pool.of_block (he p (Or.inr (Or.inl rfl))), h.map.same (he mb (Or.inr (Or.inr (Or.inl rfl)))), fun i hi => (h.tab i hi).same (fun b c => he b (Or.inr (Or.inr (Or.inr (Or.inr ⟨i, hi, c⟩))))),
    ColX.same h.gos (fun b e => he b (Or.inr (Or.inr (Or.inr (Or.inl e))))), h.lg, h.lp, h.lm, h.lv, h.lT⟩
theorem LM.keep (h : LM w g S p mb ls lt ts Lf gv lab) (hb : Below w.heap.size w w') : LM w' g S p mb ls lt ts Lf gv lab := h.same (fun b hf => hb.block b (h.inb b hf))
end
def LB (w : World) (g : Nat) (F : Nat → Prop) (S : St) (ls lt : Nat → Int) : Prop := ∃ p mb ts Lf gv lab, LM w g S p mb ls lt ts Lf gv lab ∧ ∀ b, F b ↔ lfoot g p mb Lf gv b
def CM (w w' : World) (g : Nat) (F : Nat → Prop) (S : St) (ls lt : Nat → Int) : Prop := ∃ F', LB w' g F' S ls lt ∧ Fr w w' F ∧ ∀ b, F' b → F b ∨ w.heap.size ≤ b
section
variable {w w' w1 w2 : World} {g p mb : Nat} {S S' S'' : St} {ls lt ls' lt' : Nat → Int} {ts : Nat → Option Nat} {Lf : Nat → Nat → Prop} {gv : Value} {lab : Nat → Nat} {F : Nat → Prop}
theorem LB.keep (h : LB w g F S ls lt) (hb : Below w.heap.size w w') : LB w' g F S ls lt := by
  obtain ⟨p, mb, ts, Lf, gv, lab, h1, h2⟩ := h
  exact ⟨p, mb, ts, Lf, gv, lab, h1.keep hb, h2⟩
theorem LB.inH (h : LB w g F S ls lt) : g < w.heap.size := by
  obtain ⟨p, mb, ts, Lf, gv, lab, h1, h2⟩ := h
  exact h1.row.lt
theorem fr_refl (w : World) (F : Nat → Prop) : Fr w w F := ⟨rfl, rfl, rfl, Nat.le_refl _, fun _ _ _ => rfl⟩
theorem CM.still (h : LB w g F S ls lt) (hb : Below w.heap.size w w') : CM w w' g F S ls lt :=
  ⟨F, h.keep hb, ⟨hb.os, hb.tape, hb.output, hb.size, fun b hl _ => hb.block b hl⟩, fun _ h => Or.inl h⟩
theorem CM.of (h : CM w1 w2 g F S ls lt) (hb : Below w.heap.size w w1) : CM w w2 g F S ls lt := by
  obtain ⟨F', h1, h2, h3⟩ := h
  exact ⟨F', h1, Fr.after hb h2, fun b hf => (h3 b hf).imp_right (fun c => Nat.le_trans hb.size c)⟩
theorem CM.back (h : CM w w1 g F S ls lt) (hb : Below w1.heap.size w1 w2) : CM w w2 g F S ls lt := by
  obtain ⟨F', h1, h2, h3⟩ := h
  exact ⟨F', h1.keep hb, Fr.behind h2 hb, h3⟩
theorem LM.others (h : LM w g S p mb ls lt ts Lf gv lab) {k : Nat} (hb : ∀ b, b < w.heap.size → lab b ≠ k → w'.heap[b]? = w.heap[b]?) :
    (k ≠ 0 → w'.rowIs g 138 516 (lF p mb S.now ls lt gv)) ∧ (k ≠ 1 → w'.rowIs p 189 513 (poolF S.room S.G S.L)) ∧ (k ≠ 2 → TM w' mb ts) ∧ (k ≠ 3 → ColG w' gv S.go) ∧ ∀ i, i < 32 → k ≠ 4 + i → TO w' (ts i) (Lf i) i (S.T i) :=
  ⟨fun c => h.row.of_block (hb g h.row.lt (by rw [h.lg]; exact Ne.symm c)), fun c => h.pool.of_block (hb p h.pool.lt (by rw [h.lp]; exact Ne.symm c)), fun c => h.map.same (hb mb h.map.lt (by rw [h.lm]; exact Ne.symm c)),
    fun c => ColX.same h.gos (fun b e => hb b (World.ownsRow.lt h.gos b e).2 (by rw [h.lv b e]; exact Ne.symm c)), fun i hi c => (h.tab i hi).same (fun b e => hb b ((h.tab i hi).inb b e) (by rw [h.lT i hi b e]; exact Ne.symm c))⟩
theorem LM.cells (h : LM w g S p mb ls lt ts Lf gv lab) (hF : ∀ b, F b ↔ lfoot g p mb Lf gv b) (hg : w.grownBy w' (some g)) {now' : Int} (hr : w'.rowIs g 138 516 (lF p mb now' ls' lt' gv)) : CM w w' g F { S with now := now' } ls' lt' := by
  obtain ⟨_, o1, o2, o3, o4⟩ := h.others (k := 0) (w' := w') (fun b hb hl => hg.block b hb (fun e => hl (by injection e with e; rw [e]; exact h.lg)))
  exact ⟨F, ⟨p, mb, ts, Lf, gv, lab, ⟨hr, o1 (by omega), o2 (by omega), fun i hi => o4 i hi (by omega), o3 (by omega), h.lg, h.lp, h.lm, h.lv, h.lT⟩, hF⟩,
    ⟨hg.os, hg.tape, hg.output, hg.size, fun b hb hn => hg.block b hb (fun e => hn ((hF b).2 (Or.inl (by injection e))))⟩, fun _ h => Or.inl h⟩
theorem LM.pooled (h : LM w g S p mb ls lt ts Lf gv lab) (hF : ∀ b, F b ↔ lfoot g p mb Lf gv b) (hg : w.grownBy w' (some p)) {G' : Nat → Int} {L' : Nat → Bool} (hr : w'.rowIs p 189 513 (poolF S.room G' L')) : CM w w' g F { S with G := G', L := L' } ls lt := by
  obtain ⟨o0, _, o2, o3, o4⟩ := h.others (k := 1) (w' := w') (fun b hb hl => hg.block b hb (fun e => hl (by injection e with e; rw [e]; exact h.lp)))
  exact ⟨F, ⟨p, mb, ts, Lf, gv, lab, ⟨o0 (by omega), hr, o2 (by omega), fun i hi => o4 i hi (by omega), o3 (by omega), h.lg, h.lp, h.lm, h.lv, h.lT⟩, hF⟩,
    ⟨hg.os, hg.tape, hg.output, hg.size, fun b hb hn => hg.block b hb (fun e => hn ((hF b).2 (Or.inr (Or.inl (by injection e)))))⟩, fun _ h => Or.inl h⟩
def labN (lab : Nat → Nat) (n k b : Nat) : Nat := if b < n then lab b else k
theorem labN_lt {lab : Nat → Nat} {n k b : Nat} (h : b < n) : labN lab n k b = lab b := if_pos h
theorem LM.tabled (h : LM w g S p mb ls lt ts Lf gv lab) (hF : ∀ b, F b ↔ lfoot g p mb Lf gv b) {i a : Nat} (hi : i < 32) (hts : ts i = some a) {L' : Nat → Prop} {R : TR} (ht : TBl w' a L' i R) (hf : Fr w w' (Lf i)) (hn : ∀ b, L' b → Lf i b ∨ w.heap.size ≤ b) : CM w w' g F { S with T := upf S.T i R } ls lt := by
  obtain ⟨o0, o1, o2, o3, o4⟩ := h.others (k := 4 + i) (w' := w') (fun b hb hl => hf.2.2.2.2 b hb (fun c => hl (h.lT i hi b c)))
  have hL : ∀ j b, upf Lf i L' j b → (j = i ∧ L' b) ∨ (j ≠ i ∧ Lf j b) := fun j b c => by
    unfold upf at c
    by_cases d : j = i
    · rw [if_pos d] at c; exact Or.inl ⟨d, c⟩
    · rw [if_neg d] at c; exact Or.inr ⟨d, c⟩
  refine ⟨lfoot g p mb (upf Lf i L') gv, ⟨p, mb, ts, upf Lf i L', gv, labN lab w.heap.size (4 + i), ⟨o0 (by omega), o1 (by omega), o2 (by omega), fun j hj => ?_, o3 (by omega), ?_, ?_, ?_, fun b e => ?_, fun j hj b c => ?_⟩, fun _ => Iff.rfl⟩, ⟨hf.1, hf.2.1, hf.2.2.1, hf.2.2.2.1, fun b hb hnn => hf.2.2.2.2 b hb (fun c => hnn ((hF b).2 (Or.inr (Or.inr (Or.inr (Or.inr ⟨i, hi, c⟩))))))⟩, ?_⟩
  · show TO w' (ts j) (upf Lf i L' j) j (upf S.T i R j)
    unfold upf
    by_cases d : j = i
    · rw [if_pos d, if_pos d, d, hts]; exact ht
    · rw [if_neg d, if_neg d]; exact o4 j hj (by omega)
  · rw [labN_lt h.row.lt, h.lg]
  · rw [labN_lt h.pool.lt, h.lp]
  · rw [labN_lt h.map.lt, h.lm]
  · rw [labN_lt (World.ownsRow.lt h.gos b e).2, h.lv b e]
  · rcases hL j b c with ⟨rfl, c'⟩ | ⟨d, c'⟩
    · unfold labN
      by_cases e : b < w.heap.size
      · rw [if_pos e]
        rcases hn b c' with q | q
        · exact h.lT j hj b q
        · omega
      · rw [if_neg e]
    · rw [labN_lt ((h.tab j hj).inb b c')]
      exact h.lT j hj b c'
  · rintro b (e | e | e | e | ⟨j, hj, c⟩)
    · exact Or.inl ((hF b).2 (Or.inl e))
    · exact Or.inl ((hF b).2 (Or.inr (Or.inl e)))
    · exact Or.inl ((hF b).2 (Or.inr (Or.inr (Or.inl e))))
    · exact Or.inl ((hF b).2 (Or.inr (Or.inr (Or.inr (Or.inl e)))))
    · rcases hL j b c with ⟨rfl, c'⟩ | ⟨d, c'⟩
      · rcases hn b c' with q | q
        · exact Or.inl ((hF b).2 (Or.inr (Or.inr (Or.inr (Or.inr ⟨j, hj, q⟩)))))
        · exact Or.inr q
      · exact Or.inl ((hF b).2 (Or.inr (Or.inr (Or.inr (Or.inr ⟨j, hj, c'⟩)))))
theorem LM.need (h : LM w g S p mb ls lt ts Lf gv lab) (hF : ∀ b, F b ↔ lfoot g p mb Lf gv b) {i a : Nat} (hi : i < 32) (hts : ts i = none) {L' : Nat → Prop} (hb : Below w.heap.size w w1) (ht : TBl w1 a L' i []) (hn : ∀ b, L' b → w.heap.size ≤ b) (hm : TM w2 mb (upf ts i (some a))) (hg : w1.grownBy w2 (some mb)) :
    LM w2 g S p mb ls lt (upf ts i (some a)) (upf Lf i L') gv (labN lab w.heap.size (4 + i)) ∧ Fr w w2 F ∧ ∀ b, lfoot g p mb (upf Lf i L') gv b → F b ∨ w.heap.size ≤ b := by
  have hT : S.T i = [] := by have := h.tab i hi; rw [hts] at this; exact this.1
  have h1 := h.keep hb
  obtain ⟨o0, o1, _, o3, o4⟩ := h1.others (k := 2) (w' := w2) (fun b hbb hl => hg.block b hbb (fun e => hl (by injection e with e; rw [e]; exact h1.lm)))
  have hml := h.map.lt
  have ht2 : TBl w2 a L' i [] := tc_holds.1 w1 w2 a L' i [] ht (fun b c => hg.block b (tc_holds.2.1 w1 a L' i [] ht b c) (fun e => by injection e with e; have := hn b c; omega))
  have hL : ∀ j b, upf Lf i L' j b → (j = i ∧ L' b) ∨ (j ≠ i ∧ Lf j b) := fun j b c => by
    unfold upf at c
    by_cases d : j = i
    · rw [if_pos d] at c; exact Or.inl ⟨d, c⟩
    · rw [if_neg d] at c; exact Or.inr ⟨d, c⟩
  refine ⟨⟨o0 (by omega), o1 (by omega), hm, fun j hj => ?_, o3 (by omega), ?_, ?_, ?_, fun b e => ?_, fun j hj b c => ?_⟩, ?_, ?_⟩
  · unfold upf
    by_cases d : j = i
    · rw [if_pos d, if_pos d, d, hT]; exact ht2
    · rw [if_neg d, if_neg d]; exact o4 j hj (by omega)
  · rw [labN_lt h.row.lt, h.lg]
  · rw [labN_lt h.pool.lt, h.lp]
  · rw [labN_lt h.map.lt, h.lm]
  · rw [labN_lt (World.ownsRow.lt h.gos b e).2, h.lv b e]
  · rcases hL j b c with ⟨rfl, c'⟩ | ⟨d, c'⟩
    · unfold labN
      rw [if_neg (by have := hn b c'; omega)]
    · rw [labN_lt ((h.tab j hj).inb b c')]
      exact h.lT j hj b c'
  · refine ⟨hg.os.trans hb.os, hg.tape.trans hb.tape, hg.output.trans hb.output, Nat.le_trans hb.size hg.size, fun b hbb hnn => ?_⟩
    refine (hg.block b (Nat.lt_of_lt_of_le hbb hb.size) (fun e => hnn ?_)).trans (hb.block b hbb)
    injection e with e
    exact (hF b).2 (Or.inr (Or.inr (Or.inl e)))
  · rintro b (e | e | e | e | ⟨j, hj, c⟩)
    · exact Or.inl ((hF b).2 (Or.inl e))
    · exact Or.inl ((hF b).2 (Or.inr (Or.inl e)))
    · exact Or.inl ((hF b).2 (Or.inr (Or.inr (Or.inl e))))
    · exact Or.inl ((hF b).2 (Or.inr (Or.inr (Or.inr (Or.inl e)))))
    · rcases hL j b c with ⟨rfl, c'⟩ | ⟨d, c'⟩
      · exact Or.inr (hn b c')
      · exact Or.inl ((hF b).2 (Or.inr (Or.inr (Or.inr (Or.inr ⟨j, hj, c'⟩)))))
theorem LM.went (h : LM w g S p mb ls lt ts Lf gv lab) (hF : ∀ b, F b ↔ lfoot g p mb Lf gv b) (hf : Fr w w' (fun b => b = g ∨ gv.ownBlock = some b)) {gv' : Value} {go' : List (Int × Int)} (hr : w'.rowIs g 138 516 (lF p mb S.now ls lt gv')) (hc : ColG w' gv' go') (hn : ∀ b, gv'.ownBlock = some b → gv.ownBlock = some b ∨ w.heap.size ≤ b) : CM w w' g F { S with go := go' } ls lt := by
  have hgl := h.row.lt
  have ho : ∀ b, b < w.heap.size → b ≠ g → gv.ownBlock ≠ some b → w'.heap[b]? = w.heap[b]? := fun b hb h1 h2 => hf.2.2.2.2 b hb (fun c => c.elim h1 h2)
  have hpg : p ≠ g := fun e => by have h1 := h.lp; rw [e, h.lg] at h1; omega
  have hmg : mb ≠ g := fun e => by have h1 := h.lm; rw [e, h.lg] at h1; omega
  have hvp : gv.ownBlock ≠ some p := fun e => by have h1 := h.lv p e; rw [h.lp] at h1; omega
  have hvm : gv.ownBlock ≠ some mb := fun e => by have h1 := h.lv mb e; rw [h.lm] at h1; omega
  refine ⟨lfoot g p mb Lf gv', ⟨p, mb, ts, Lf, gv', labN lab w.heap.size 3, ⟨hr, h.pool.of_block (ho p h.pool.lt hpg hvp), h.map.same (ho mb h.map.lt hmg hvm), fun i hi => (h.tab i hi).same (fun b c => ho b ((h.tab i hi).inb b c) (fun e => ?_) (fun e => ?_)), hc, ?_, ?_, ?_, fun b e => ?_, fun i hi b c => ?_⟩, fun _ => Iff.rfl⟩,
    ⟨hf.1, hf.2.1, hf.2.2.1, hf.2.2.2.1, fun b hb hnn => hf.2.2.2.2 b hb (fun c => hnn ((hF b).2 (c.elim (fun e => Or.inl e) (fun e => Or.inr (Or.inr (Or.inr (Or.inl e)))))))⟩, ?_⟩
  · have h1 := h.lT i hi b c; rw [e, h.lg] at h1; omega
  · have h1 := h.lT i hi b c; rw [h.lv b e] at h1; omega
  · rw [labN_lt hgl, h.lg]
  · rw [labN_lt h.pool.lt, h.lp]
  · rw [labN_lt h.map.lt, h.lm]
  · rcases hn b e with q | q
    · rw [labN_lt (World.ownsRow.lt h.gos b q).2, h.lv b q]
    · unfold labN; rw [if_neg (by omega)]
  · rw [labN_lt ((h.tab i hi).inb b c)]
    exact h.lT i hi b c
  · rintro b (e | e | e | e | e)
    · exact Or.inl ((hF b).2 (Or.inl e))
    · exact Or.inl ((hF b).2 (Or.inr (Or.inl e)))
    · exact Or.inl ((hF b).2 (Or.inr (Or.inr (Or.inl e))))
    · rcases hn b e with q | q
      · exact Or.inl ((hF b).2 (Or.inr (Or.inr (Or.inr (Or.inl q)))))
      · exact Or.inr q
    · exact Or.inl ((hF b).2 (Or.inr (Or.inr (Or.inr (Or.inr e)))))
end

section
variable {w : World} {g p mb : Nat} {S : St} {ls lt : Nat → Int} {ts : Nat → Option Nat} {Lf : Nat → Nat → Prop} {gv : Value} {lab : Nat → Nat} {F : Nat → Prop}
theorem LM.c0 (h : LM w g S p mb ls lt ts Lf gv lab) : w.cell? ⟨g, 0, none⟩ = some (.pointer (some ⟨p, 0, none⟩)) := h.row.cell (by omega)
theorem LM.c1 (h : LM w g S p mb ls lt ts Lf gv lab) : w.cell? ⟨g, 1, none⟩ = some (.map (some mb)) := h.row.cell (by omega)
theorem LM.c2 (h : LM w g S p mb ls lt ts Lf gv lab) : w.cell? ⟨g, 2, none⟩ = some (.int .i64 S.now) := h.row.cell (by omega)
theorem LM.cS (h : LM w g S p mb ls lt ts Lf gv lab) {k : Nat} (hk : k < 256) : w.cell? ⟨g, 3 + k * 2, none⟩ = some (.int .i64 (ls k)) := by rw [h.row.cell (by omega), lF_set hk]
theorem LM.cT (h : LM w g S p mb ls lt ts Lf gv lab) {k : Nat} (hk : k < 256) : w.cell? ⟨g, 3 + k * 2 + 1, none⟩ = some (.int .i64 (lt k)) := by rw [h.row.cell (by omega), lF_tick hk]
theorem LM.c515 (h : LM w g S p mb ls lt ts Lf gv lab) : w.cell? ⟨g, 515, none⟩ = some gv := h.row.cell (by omega)
theorem CM.join {w w1 w2 : World} {g : Nat} {S : St} {ls lt : Nat → Int} {F F' : Nat → Prop} (hfr : Fr w w1 F) (hn : ∀ b, F' b → F b ∨ w.heap.size ≤ b) (k : CM w1 w2 g F' S ls lt) : CM w w2 g F S ls lt := by
  obtain ⟨F'', k1, k2, k3⟩ := k
  refine ⟨F'', k1, ⟨k2.1.trans hfr.1, k2.2.1.trans hfr.2.1, k2.2.2.1.trans hfr.2.2.1, Nat.le_trans hfr.2.2.2.1 k2.2.2.2.1, fun b hb hnn => ?_⟩, fun b hb => ?_⟩
  · refine (k2.2.2.2.2 b (Nat.lt_of_lt_of_le hb hfr.2.2.2.1) (fun c => ?_)).trans (hfr.2.2.2.2 b hb hnn)
    rcases hn b c with d | d
    · exact hnn d
    · omega
  · rcases k3 b hb with d | d
    · exact hn b d
    · exact Or.inr (Nat.le_trans hfr.2.2.2.1 d)
theorem TM.drewN (h : TM w mb ts) (n : Nat) : TM (w.drewN n) mb ts := h
theorem ix_any {id : Int} (ho : idOk id = true) : ∃ k : Nat, k < 256 ∧ (id % 256).toNat = k ∧ ∀ w', Calls Tryz.prog 108 #[.int .i64 id] w' fun e w'' => e = .returned (.int .i64 (k : Int)) ∧ w' = w'' := by
  obtain ⟨i, q, hi, hq, hx, ht, hd⟩ := id_parts ho
  exact ⟨i, hi, by omega, fun w' => (qindex id w').mono fun _ _ ⟨he, hw⟩ => ⟨by rw [he, if_pos ho, show id % 256 = (i : Int) by omega], hw⟩⟩

set_option maxHeartbeats 2000000 in
set_option maxRecDepth 100000 in
theorem lfind_any (h : LM w g S p mb ls lt ts Lf gv lab) (id : Int) (ho : idOk id = true) {i a : Nat} (hi : i < 32) (hl : ls (id % 256).toNat = (i : Int)) (hts : ts i = some a) (hR : (S.T i).length ≤ 1000) :
    Calls Tryz.prog 185 #[.pointer (some ⟨g, 0, none⟩), .int .i64 id] w fun e w' => e = .returned (.tuple #[.pointer (some ⟨a, 0, none⟩), .int .i64 (findI (S.T i) id)]) ∧ Below w.heap.size w w' := by
  obtain ⟨k, hk, hk2, hix⟩ := ix_any ho
  have HIx := Lib.hid hix
  have c1 := h.c1
  have cs := h.cS hk
  rw [← hk2, hl] at cs
  have hm := h.map.get hi
  rw [hts] at hm
  have hm2 : ∀ n, (Instr.lookup 132 (.map (some mb)) (.int .i64 i) false).run Tryz.prog (w.drewN n) = .ok (.pointer (some ⟨a, 0, none⟩)) (w.drewN n) := fun n => by
    have := (h.map.drewN n).get hi
    rw [hts] at this
    exact this
  have ht := h.tab i hi
  rw [hts] at ht
  replace ht : TBl w a (Lf i) i (S.T i) := ht
  have HFd : Hid (∀ n, Calls Tryz.prog 241 #[.pointer (some ⟨a, 0, none⟩), .int .i64 id] (w.drewN n) fun e w' => e = .returned (.int .i64 (findI (S.T i) id)) ∧ (w.drewN n) = w') := Lib.hid (fun n => by
    have ht' : TBl (w.drewN n) a (Lf i) i (S.T i) := TBl.keep ht (Go.below_drewN (Below.refl _ _) n)
    obtain ⟨v, h1, _⟩ := ht'
    exact find_any h1 hR id)
  have hg := h.row.lt
  have k0 : (0 : Int) ≤ (k : Int) := by omega
  have k1 : (k : Int) < 256 := by omega
  rw [hk2] at cs
  clear h ht hts hl hR ho hix hk2 hm
  go_enter Tryz.func185, Tryz.ntmps185
  go_wp2
  go_quiet (first | (go_at_call 108; refine Calls.quiet_of_same ((HIx.out _).mono fun _ _ q => ⟨q.1, q.2.symm⟩)))
  go_wp2_with fail
  refine (HFd.out _).mono ?_
  rintro e w2 ⟨rfl, rfl⟩
  go_wp2
  go_ret2
  exact ⟨rfl, Go.below_drewN (Below.refl _ _) nq⟩

set_option maxHeartbeats 2000000 in
set_option maxRecDepth 100000 in
theorem lremove_any (h : LM w g S p mb ls lt ts Lf gv lab) (hF : ∀ b, F b ↔ lfoot g p mb Lf gv b) (id : Int) (ho : idOk id = true) {i a : Nat} (hi : i < 32) (hl : ls (id % 256).toNat = (i : Int)) (hts : ts i = some a) (hR : (S.T i).length ≤ 1000) :
    Calls Tryz.prog 116 #[.pointer (some ⟨g, 0, none⟩), .int .i64 id] w fun e w' => e = .returned (.tuple #[]) ∧ CM w w' g F { S with T := upf S.T i (tcuR (S.T i) (findI (S.T i) id)) } ls lt := by
  have HFi := Lib.hid (lfind_any h id ho hi hl hts hR)
  have HC : Hid (∀ u, Below w.heap.size w u → Calls Tryz.prog 186 #[.pointer (some ⟨a, 0, none⟩), .int .i64 (findI (S.T i) id)] u fun e w' => ∃ x y : Int, e = .returned (.tuple #[.int .i64 x, .int .i64 y]) ∧ CM w w' g F { S with T := upf S.T i (tcuR (S.T i) (findI (S.T i) id)) } ls lt) := Lib.hid (fun u k => by
    have h1 := h.keep k
    have ht := h1.tab i hi
    rw [hts] at ht
    refine (tcut_any u a (Lf i) i (S.T i) (findI (S.T i) id) hR ht).mono ?_
    rintro e w' ⟨L', rfl, t1, t2, t3⟩
    exact ⟨_, _, rfl, (h1.tabled hF hi hts t1 t2 t3).of k⟩)
  obtain ⟨q, hq⟩ : ∃ q, q = findI (S.T i) id := ⟨_, rfl⟩
  obtain ⟨S', hS'⟩ : ∃ S', S' = { S with T := upf S.T i (tcuR (S.T i) (findI (S.T i) id)) } := ⟨_, rfl⟩
  rw [← hS'] at HC
  rw [← hS']
  rw [← hq] at HFi HC
  clear h hF hq hS' hl hts hR ho
  go_enter Tryz.func116, Tryz.ntmps116
  go_wp2_with fail
  refine HFi.out.mono ?_
  rintro e w1 ⟨rfl, b1⟩
  have B1 := Lib.hid b1
  clear b1
  go_wp2_with fail
  refine (HC.out _ B1.out).mono ?_
  rintro e w2 ⟨x, y, rfl, hc⟩
  have HC2 := Lib.hid hc
  clear hc
  go_wp2
  go_end0
  exact ⟨rfl, HC2.out⟩

set_option maxHeartbeats 2000000 in
set_option maxRecDepth 100000 in
theorem lneed_old (h : LM w g S p mb ls lt ts Lf gv lab) {i a : Nat} (hi : i < 32) (hts : ts i = some a) :
    Calls Tryz.prog 179 #[.pointer (some ⟨g, 0, none⟩), .int .i64 i] w fun e w' => e = .returned (.pointer (some ⟨a, 0, none⟩)) ∧ w = w' := by
  have c1 := h.c1
  have hm := h.map.get hi
  rw [hts] at hm
  replace hm : (Instr.lookup 132 (.map (some mb)) (.int .i64 i) false).run Tryz.prog w = .ok (.pointer (some ⟨a, 0, none⟩)) w := hm
  have hg := h.row.lt
  clear h hts
  go_enter Tryz.func179, Tryz.ntmps179
  go_wp2
  go_ret
  exact ⟨rfl, rfl⟩
set_option maxHeartbeats 2000000 in
set_option maxRecDepth 100000 in
theorem lneed_new (h : LM w g S p mb ls lt ts Lf gv lab) (hF : ∀ b, F b ↔ lfoot g p mb Lf gv b) {i : Nat} (hi : i < 32) (hts : ts i = none) :
    Calls Tryz.prog 179 #[.pointer (some ⟨g, 0, none⟩), .int .i64 i] w fun e w' => ∃ a L' lab', e = .returned (.pointer (some ⟨a, 0, none⟩)) ∧ LM w' g S p mb ls lt (upf ts i (some a)) (upf Lf i L') gv lab' ∧ Fr w w' F ∧ ∀ b, lfoot g p mb (upf Lf i L') gv b → F b ∨ w.heap.size ≤ b := by
  have c1 := h.c1
  have hm := h.map.get hi
  rw [hts] at hm
  replace hm : (Instr.lookup 132 (.map (some mb)) (.int .i64 i) false).run Tryz.prog w = .ok (.pointer none) w := hm
  have hg := h.row.lt
  have HN : Hid (∀ u, Below w.heap.size w u → Calls Tryz.prog 239 #[.int .i64 i] u fun e w1 => ∃ a, e = .returned (.tuple #[.pointer (some ⟨a, 0, none⟩), .int .i64 0]) ∧ ∃ w2, (Instr.mapUpdate 132 (.map (some mb)) (.int .i64 i) (.pointer (some ⟨a, 0, none⟩))).run Tryz.prog w1 = .ok () w2 ∧ (∃ L' lab', LM w2 g S p mb ls lt (upf ts i (some a)) (upf Lf i L') gv lab' ∧ Fr w w2 F ∧ ∀ b, lfoot g p mb (upf Lf i L') gv b → F b ∨ w.heap.size ≤ b) ∧ w1.cell? ⟨g, 1, none⟩ = some (.map (some mb)) ∧ w2.cell? ⟨g, 1, none⟩ = some (.map (some mb)) ∧ g < w2.heap.size ∧ (Instr.lookup 132 (.map (some mb)) (.int .i64 i) false).run Tryz.prog w2 = .ok (.pointer (some ⟨a, 0, none⟩)) w2) := Lib.hid (fun u k => by
    refine (new_any u i (by omega)).mono ?_
    rintro e w1 ⟨a, L', rfl, t1, t2, t3⟩
    have hb : Below w.heap.size w w1 := bthen k t3
    obtain ⟨w2, hr, m1, m2⟩ := ((h.keep hb).map).put hi a
    have hX := h.need hF hi hts hb t1 (fun b c => Nat.le_trans k.size (t2 b c)) m1 m2
    have hq := m1.get hi
    rw [show upf ts i (some a) i = some a by unfold upf; rw [if_pos rfl]] at hq
    exact ⟨a, rfl, w2, hr, ⟨L', _, hX⟩, (h.keep hb).c1, hX.1.c1, hX.1.row.lt, hq⟩)
  clear h hF hts
  go_enter Tryz.func179, Tryz.ntmps179
  go_wp2
  go_region_held3 (fun w' => w'.cell? ⟨g, 1, none⟩ = some (.map (some mb))) (first | exact c1 | go_keep)
    (first | (go_at_call 239; refine (HN.out _ (bdrewn (Below.refl _ _))).mono ?_; rintro e w1 ⟨a, rfl, w2, hrun, hrest, c2, c3, z3, hl3⟩; have HR := Lib.hid hrest; clear hrest))
  go_wp2
  go_ret
  obtain ⟨L', lab', hx⟩ := HR.out
  exact ⟨a, L', lab', rfl, hx⟩

theorem lneed_any (h : LM w g S p mb ls lt ts Lf gv lab) (hF : ∀ b, F b ↔ lfoot g p mb Lf gv b) {i : Nat} (hi : i < 32) :
    Calls Tryz.prog 179 #[.pointer (some ⟨g, 0, none⟩), .int .i64 i] w fun e w' => ∃ a ts' Lf' lab', e = .returned (.pointer (some ⟨a, 0, none⟩)) ∧ ts' i = some a ∧ LM w' g S p mb ls lt ts' Lf' gv lab' ∧ Fr w w' F ∧ ∀ b, lfoot g p mb Lf' gv b → F b ∨ w.heap.size ≤ b := by
  cases hts : ts i with
  | some a => exact (lneed_old h hi hts).mono fun _ _ ⟨he, hw⟩ => ⟨a, ts, Lf, lab, he, hts, hw ▸ h, hw ▸ fr_refl _ _, fun b c => Or.inl ((hF b).2 c)⟩
  | none => exact (lneed_new h hF hi hts).mono fun _ _ ⟨a, L', lab', he, hx, hf, hn⟩ => ⟨a, _, _, lab', he, by unfold upf; rw [if_pos rfl], hx, hf, hn⟩
end
end Go.Proofs.YthhfcedhbfandaaGreat
