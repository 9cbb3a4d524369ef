/-
  4 texts in one file, each with its own heading.
-/
import Derived.Test.YtkondkajpmafkaaGreatMP20
/-
  The reference's tables inside a bigger block: what its Add, Put, Cut and IDs of layer 7 answer.
-/
namespace Go.Proofs.YtkondkajpmafkaaGreat
open Go.RowKit

theorem build_row8 (id : Int) (P : PT) (w : World) : (Instr.build 140 #[(0, .int .i64 id), (1, .agg (pl P).toArray)]).run Tryz.prog w = .ok (.agg (rcells (id, P)).toArray) w := by kernel_rfl
theorem build_rs8 (x : Int × PT) (W : World) : (Instr.buildSlice 90 1 #[(0, .agg (rcells x).toArray)]).run Tryz.prog W = .ok (.slice (some ⟨W.heap.size, 0, none⟩) 1 1) (W.alloc (.cells (rcells x).toArray 140)) := by kernel_rfl
theorem wpList_bld8 {ops : Array Oper} {rest : List Oper} {op : Oper} {a : Go.Act} {w : World} {Q : Exit → Go.Act → World → Prop} (hgd : op.guard = none) (t : TypeId) (x y : Operand) (ho : op.op = .build t #[(0, x), (1, y)]) (vx vy vr : Value) (hx : a.eval x = vx) (hy : a.eval y = vy)
    (hrun : ∀ W, (Instr.build t #[(0, vx), (1, vy)]).run Tryz.prog W = .ok vr W)
    (h : wpList Tryz.prog ops Q rest (a.put op.dst vr) w) : wpList Tryz.prog ops Q (op :: rest) a w :=
  wpList_plain hgd fun K hK => by
    have h2 := hK _ _ h
    unfold Oper.wp execOp
    simp only [ho]
    simp [hx, hy, hrun]
    exact h2
theorem TU.store {w W : World} {g o : Nat} {t : TypeId} {N : Nat} {f : Nat → Value} {s : Int} {v u : Value} {R R' : TR} (h : TV w g o t N f s v R) (hb : Below w.heap.size w W) (hc : ColR W u R') (hu : ∀ b, u.ownBlock = some b → w.heap.size ≤ b) : TU w (W.setCell ⟨g, o + 1, none⟩ u) g o t N f R' := by
  have hg := h.row.lt
  refine ⟨u, (h.keep hb).row.set (o + 1) u, hc.same (fun b e => ?_), fun b e => ⟨fun c => ?_, Or.inr (hu b e)⟩, ⟨hb.os, hb.tape, hb.output, Nat.le_trans hb.size (by simp [World.setCell]), fun k hk hn => ?_⟩⟩
  · have := hu b e
    simp only [World.setCell, Array.getElem?_modify]
    rw [if_neg (by omega)]
  · have := hu b e; omega
  · have : k ≠ g := fun e => hn (by rw [e])
    simp only [World.setCell, Array.getElem?_modify]
    rw [if_neg (fun e => this e.symm)]
    exact hb.block k hk
theorem TV.cells {w : World} {g o : Nat} {t : TypeId} {N : Nat} {f : Nat → Value} {s : Int} {v : Value} {R : TR} (h : TV w g o t N f s v R) : w.cell? ⟨g, o + 1, none⟩ = some v ∧ w.frozen? ⟨g, o + 1, none⟩ = false ∧ g < w.heap.size := ⟨by rw [h.row.cell h.inN, h.val], h.row.frozen _, h.row.lt⟩
theorem fits_no7 {s : Int} {P : PT} (h : fitsB s P = false) (R : TR) (row id : Int) : tpuE s R row P = 1 ∧ tpuR s R row P = R ∧ tadE s R id P = 1 ∧ tadN s R id P = 0 ∧ tadR s R id P = R := by
  have e1 : tpuE s R row P = 1 := by unfold tpuE; rw [h]; rfl
  have e2 : tadE s R id P = 1 := by unfold tadE; rw [h]; rfl
  refine ⟨e1, ?_, e2, ?_, ?_⟩
  · unfold tpuR; rw [e1]; rfl
  · unfold tadN; rw [e2]; rfl
  · unfold tadR; rw [e2]; rfl
theorem has_find7 {R : TR} {id : Int} (h : hasId R id = true) : 0 ≤ findI R id := by
  unfold findI
  cases hf : R.findIdx? (fun r => r.1 == id) with
  | none =>
    rw [List.findIdx?_eq_none_iff] at hf
    unfold hasId at h
    rw [List.any_eq_true] at h
    obtain ⟨x, hx, e⟩ := h
    rw [hf x hx] at e
    cases e
  | some i => exact Int.natCast_nonneg i
theorem hasnt_find7 {R : TR} {id : Int} (h : hasId R id = false) : findI R id = -1 := by
  unfold findI
  have : R.findIdx? (fun r => r.1 == id) = none := List.findIdx?_eq_none_iff.2 (fun x hx => by
    unfold hasId at h
    rw [List.any_eq_false] at h
    simpa using h x hx)
  rw [this]
theorem copy_out {w W w' : World} {v : Value} {R : TR} {t : TypeId} {gp : Nat} {C : Array Value} (hb : Below w.heap.size w W) (hB : Blk W gp t C) (hg : (W.alloc (.cells #[] 140)).grownBy w' (some W.heap.size)) (hc : ColR w' v R) (hv : ∀ b, v.ownBlock = some b → b = W.heap.size ∨ (W.alloc (.cells #[] 140)).heap.size ≤ b) :
    Below w.heap.size w w' ∧ Blk w' gp t C ∧ ColR w' v R ∧ ∀ b, v.ownBlock = some b → W.heap.size ≤ b := by
  have h1 := balloc hb (.cells #[] 140)
  refine ⟨⟨hg.os.trans h1.os, hg.tape.trans h1.tape, hg.output.trans h1.output, Nat.le_trans h1.size hg.size, fun k hk => (hg.block k (Nat.lt_of_lt_of_le hk h1.size) (fun e => ?_)).trans (h1.block k hk)⟩, (hB.alloc _).same (hg.block gp ?_ (fun e => ?_)), hc, fun b e => ?_⟩
  · injection e with e; have := hb.size; omega
  · have := hB.lt; rw [World.size_alloc]; omega
  · injection e with e; have := hB.lt; omega
  · rcases hv b e with c | c
    · omega
    · rw [World.size_alloc] at c; omega

set_option maxHeartbeats 4000000 in
set_option maxRecDepth 100000 in
theorem radd_any {w : World} {g o : Nat} {t : TypeId} {N : Nat} {f : Nat → Value} {s : Int} {v : Value} {R : TR} (h : TV w g o t N f s v R) (id : Int) (P : PT) :
    Calls Tryz.prog 111 #[.pointer (some ⟨g, o, none⟩), .int .i64 id, .agg (pl P).toArray] w fun e w' => e = .returned (.tuple #[.int .i64 (tadN s R id P), .int .i64 (tadE s R id P)]) ∧ TU w w' g o t N f (tadR s R id P) := by
  have HT := Lib.hid h
  have hlen := h.len
  obtain ⟨bf, hbf⟩ : ∃ bf, fitsB s P = bf := ⟨_, rfl⟩
  have HFi : Hid (∀ u, Below w.heap.size w u → Calls Tryz.prog 140 #[.pointer (some ⟨g, o, none⟩), .agg (pl P).toArray] u fun e w' => e = .returned (.bool bf) ∧ Below u.heap.size u w') := Lib.hid (fun u k => rfits_any (h.keep k) P hbf)
  obtain ⟨q, hq⟩ : ∃ q, findI R id = q := ⟨_, rfl⟩
  have HFd : Hid (∀ u, Below w.heap.size w u → Calls Tryz.prog 115 #[.pointer (some ⟨g, o, none⟩), .int .i64 id] u fun e w' => e = .returned (.int .i64 q) ∧ u = w') := Lib.hid (fun u k => hq ▸ rfind_any (h.keep k) id)
  have HBF := Lib.hid hbf
  have HQ := Lib.hid hq
  have HSz := Lib.hid (pl_size P)
  have HBr : Hid (∀ W, (Instr.build 140 #[(0, .int .i64 id), (1, .agg (pl P).toArray)]).run Tryz.prog W = .ok (.agg (rcells (id, P)).toArray) W) := Lib.hid (build_row8 id P)
  have HBs : Hid (∀ W, (Instr.buildSlice 90 1 #[(0, .agg (rcells (id, P)).toArray)]).run Tryz.prog W = .ok (.slice (some ⟨W.heap.size, 0, none⟩) 1 1) (W.alloc (.cells (rcells (id, P)).toArray 140))) := Lib.hid (build_rs8 (id, P))
  obtain ⟨Xr, hXr⟩ : ∃ Xr, Xr = rcells (id, P) := ⟨_, rfl⟩
  have HXr := Lib.hid hXr
  have HXo : Hid (∀ u ∈ Xr, u.oneCell' = true) := Lib.hid (by rw [hXr]; exact rone _)
  rw [← hXr] at HBr HBs
  obtain ⟨Xp, hXp⟩ : ∃ Xp, Xp = pl P := ⟨_, rfl⟩
  rw [← hXp] at HSz HFi HBr
  rw [← hXp]
  have KP := Lib.hid (Blk.new w 43 Xp.toArray)
  have HB : Hid (Below w.heap.size w (w.alloc (.cells Xp.toArray 43))) := Lib.hid (alloc_below _ _)
  clear hXp hXr hbf hq h
  go_enter Tryz.func111, Tryz.ntmps111
  go_wp2_with (refine wpList_load_mid rfl 43 (.tmp 5) rfl w.heap.size 0 rfl Xp _ (blk_whole KP.out) Tryz.underlying43 rfl HSz.out ?_)
  refine (HFi.out _ HB.out).mono ?_
  rintro e w1 ⟨rfl, b1⟩
  replace KP := Lib.hid (Blk.keep KP.out b1)
  replace HB := Lib.hid (bthen HB.out b1)
  clear b1 HFi
  cases bf with
  | false =>
    go_wp2
    go_ret2
    obtain ⟨_, _, e1, e2, e3⟩ := fits_no7 HBF.out R 0 id
    exact ⟨by rw [e1, e2]; rfl, by rw [e3]; exact TU.same HT.out HB.out⟩
  | true =>
    go_wp2_with fail
    refine (HFd.out _ HB.out).mono ?_
    rintro e w2 ⟨rfl, rfl⟩
    clear HFd
    by_cases hi : hasId R id = true
    · have q0 : 0 ≤ q := HQ.out ▸ has_find7 hi
      have HI := Lib.hid hi
      clear hi
      go_wp2
      go_ret2
      have e1 : tadE s R id P = 5 := by unfold tadE; rw [HBF.out, HI.out]; rfl
      have e2 : tadN s R id P = 0 := by unfold tadN; rw [e1]; rfl
      exact ⟨by rw [e1, e2]; rfl, by unfold tadR; rw [e1]; exact TU.same HT.out HB.out⟩
    · have hi' : hasId R id = false := by simpa using hi
      obtain rfl : q = -1 := HQ.out ▸ hasnt_find7 hi'
      have HI := Lib.hid hi'
      clear hi hi'
      obtain ⟨c1, f1, hg1⟩ := (HT.out.keep HB.out).cells
      have c1' : (w1.alloc (.cells #[] 140)).cell? ⟨g, o + 1, none⟩ = some v := cell_keep c1 (alloc_below _ _)
      go_wp2_with (at_builtin; refine wpList_copyC rfl (.tmp 19) (.tmp 23) 90 140 25 200 (.agg (rcells (0, zT)).toArray) rcells rfl Tryz.underlying90 rinfo rfl (by decide) (by decide) (fun _ => rfl) rone w1.heap.size rfl (Blk.new _ _ _) v R rfl ((HT.out.keep (balloc HB.out _)).col) (by omega) ?_)
      intro v1 w3 hc hgr hat
      have HCo := Lib.hid (copy_out HB.out KP.out hgr hc (by simpa using hat))
      obtain ⟨a1, cap1, hv1, _, _⟩ := hc.form
      subst hv1
      have hsz1 := HB.out.size
      clear hc hgr hat c1 c1' f1 hg1
      obtain ⟨n, hn⟩ : ∃ n, n = R.length := ⟨_, rfl⟩
      have HN := Lib.hid hn
      have HBl := Lib.hid HCo.out.1
      have KP2 := Lib.hid HCo.out.2.1
      have HC2 := Lib.hid HCo.out.2.2.1
      have HV2 : Hid (∀ b, (Value.slice a1 R.length cap1).ownBlock = some b → w.heap.size ≤ b) := Lib.hid (fun b e => Nat.le_trans hsz1 (HCo.out.2.2.2 b e))
      rw [← hn] at HC2 HV2 hlen ⊢
      clear hn HCo HB KP hsz1
      have hgp := KP2.out.lt
      go_wp2_with (first | refine wpList_load_mid rfl 43 (.tmp 5) rfl w.heap.size 0 rfl Xp _ (blk_whole KP2.out) Tryz.underlying43 rfl HSz.out ?_ | refine wpList_bld8 rfl 140 (.tmp 26) (.tmp 27) rfl (.int .i64 id) (.agg Xp.toArray) (.agg Xr.toArray) rfl rfl HBr.out ?_ | refine wpList_bs8 rfl 90 140 (.tmp 28) rfl Xr rfl HBs.out ?_ | (at_builtin; refine wpList_appC rfl (.tmp 25) (.tmp 29) 90 140 25 200 (.agg (rcells (0, zT)).toArray) rcells rfl Tryz.underlying90 rinfo rfl (by decide) (by decide) (fun _ => rfl) (.slice a1 n cap1) R rfl (col_keep HC2.out (alloc_below _ _)) (by rw [← HN.out]; omega) (id, P) Xr HXr.out HXo.out w3.heap.size (Blk.new _ _ _) rfl ?_))
      intro gu gcap w4 hc hgr hat
      have HX4 : Hid (Below w.heap.size w w4 ∧ w.heap.size ≤ gu) := Lib.hid (by
        have h1 := balloc HBl.out (.cells Xr.toArray 140)
        refine ⟨⟨hgr.os.trans h1.os, hgr.tape.trans h1.tape, hgr.output.trans h1.output, Nat.le_trans h1.size hgr.size, fun k hk => (hgr.block k (Nat.lt_of_lt_of_le hk h1.size) (fun e => ?_)).trans (h1.block k hk)⟩, ?_⟩
        · have := HV2.out k e.symm; omega
        · rcases hat with e | e
          · exact HV2.out gu e
          · have := HBl.out.size
            have e' : w3.heap.size + 1 ≤ gu := by simpa using e
            omega)
      have HC4 := Lib.hid hc
      clear hc hgr hat
      obtain ⟨c1, f1, hg1⟩ := (HT.out.keep HX4.out.1).cells
      rw [← HN.out] at HC4 ⊢
      have HTU := Lib.hid (TU.store HT.out HX4.out.1 HC4.out (fun b e => by
        have : gu = b := by simpa [Value.ownBlock] using e
        rw [← this]; exact HX4.out.2))
      clear HC4 HX4 HC2 HV2 HBl KP2 hgp
      go_wp2
      go_ret2
      have e1 : tadE s R id P = 0 := by unfold tadE; rw [HBF.out, HI.out]; rfl
      have e2 : tadN s R id P = (n : Int) := by unfold tadN; rw [e1, HN.out]; rfl
      have e3 : tadR s R id P = R ++ [(id, P)] := by unfold tadR; rw [e1]; rfl
      exact ⟨by rw [e1, e2]; rfl, by rw [e3]; exact HTU.out⟩

theorem splice_tail {A vs : List Value} {o : Nat} {u : Value} (h : A[o]? = some u) : splice A (o + 1) vs = splice A o (u :: vs) := by
  obtain ⟨ho, e⟩ := List.getElem?_eq_some_iff.1 h
  unfold splice
  rw [List.take_add_one, h, List.length_cons, show o + (vs.length + 1) = o + 1 + vs.length by omega]
  simp
theorem col_part {w : World} {R : TR} {g n cap : Nat} (h : ColR w (.slice (some ⟨g, 0, none⟩) n cap) R) {i : Nat} (hi : i < R.length) (P : PT) : ColR (w.setCells g (i * 25 + 1) (pl P)) (.slice (some ⟨g, 0, none⟩) n cap) (R.set i ((R.getD i d0).1, P)) := by
  obtain ⟨cur, hb, hl, hn, hcap, hm, hs, ht⟩ := ColX.blk h (by omega)
  have h1 : (i + 1) * 25 ≤ R.length * 25 := Nat.mul_le_mul_right _ hi
  have hc : ∀ x, (rcells x).length = 25 := fun _ => rfl
  have hpl : (pl P).length = 24 := rfl
  have hcell : cur[i * 25]? = some (.int .i64 (R.getD i d0).1) := by
    have h2 := (ColX.range (c := rcells) (k := 25) hc h (getD_at hi)) 0 _ rfl
    rw [Nat.add_zero, hb.cell] at h2
    simpa using h2
  have hb' := blk_setCells (pl P) (o := i * 25 + 1) hb (by rw [hpl]; omega)
  rw [splice_tail hcell] at hb'
  have hrc : (Value.int .i64 (R.getD i d0).1 :: pl P) = rcells ((R.getD i d0).1, P) := rfl
  rw [hrc] at hb'
  subst hn
  have := ColX.close (X := R.set i ((R.getD i d0).1, P)) (cap := cap) hc hb' (by rw [List.length_set]; exact hcap) hm (by rw [splice_len (by rw [hc]; omega)]; exact hs) (by rw [List.length_set, splice_take (by rw [hc]; omega) hl, ht, flat_set hc R i _ hi])
  rw [List.length_set] at this
  exact this
theorem there_part {w : World} {R : TR} {g n cap : Nat} (h : ColR w (.slice (some ⟨g, 0, none⟩) n cap) R) {i : Nat} (hi : i < R.length) : w.there g (i * 25 + 1) 24 := by
  obtain ⟨cur, hb, hl, _⟩ := ColX.blk h (by omega)
  refine blk_there hb ?_
  have : (i + 1) * 25 ≤ R.length * 25 := Nat.mul_le_mul_right _ hi
  omega
theorem inR_nat7 {R : TR} {row : Int} (h : inR R row = true) : ∃ r : Nat, row = (r : Int) ∧ r < R.length := by
  unfold inR at h
  rw [Bool.and_eq_true, decide_eq_true_eq, decide_eq_true_eq] at h
  exact ⟨row.toNat, by omega, by omega⟩
set_option maxHeartbeats 4000000 in
set_option maxRecDepth 100000 in
theorem rput_any {w : World} {g o : Nat} {t : TypeId} {N : Nat} {f : Nat → Value} {s : Int} {v : Value} {R : TR} (h : TV w g o t N f s v R) (row : Int) (P : PT) :
    Calls Tryz.prog 110 #[.pointer (some ⟨g, o, none⟩), .int .i64 row, .agg (pl P).toArray] w fun e w' => e = .returned (.int .i64 (tpuE s R row P)) ∧ TU w w' g o t N f (tpuR s R row P) := by
  have HT := Lib.hid h
  have hlen := h.len
  obtain ⟨av, capv, hv, hcapv, hmaxv⟩ := h.col.form
  obtain ⟨bf, hbf⟩ : ∃ bf, fitsB s P = bf := ⟨_, rfl⟩
  have HFi : Hid (∀ u, Below w.heap.size w u → Calls Tryz.prog 140 #[.pointer (some ⟨g, o, none⟩), .agg (pl P).toArray] u fun e w' => e = .returned (.bool bf) ∧ Below u.heap.size u w') := Lib.hid (fun u k => rfits_any (h.keep k) P hbf)
  have HBF := Lib.hid hbf
  have HSz := Lib.hid (pl_size P)
  have HSz' := Lib.hid (pl_size' P)
  have HO := Lib.hid (pl_one P)
  have HPl : Hid ((pl P).length = 24) := Lib.hid rfl
  have HPart : Hid (∀ (W : World) (gg nn cc i : Nat), ColR W (.slice (some ⟨gg, 0, none⟩) nn cc) R → i < R.length → ColR (W.setCells gg (i * 25 + 1) (pl P)) (.slice (some ⟨gg, 0, none⟩) nn cc) (R.set i ((R.getD i d0).1, P))) := Lib.hid (fun W gg nn cc i hh hi => col_part hh hi P)
  obtain ⟨Xp, hXp⟩ : ∃ Xp, Xp = pl P := ⟨_, rfl⟩
  rw [← hXp] at HSz HSz' HO HFi HPl HPart
  rw [← hXp]
  have KP := Lib.hid (Blk.new w 43 Xp.toArray)
  have HB : Hid (Below w.heap.size w (w.alloc (.cells Xp.toArray 43))) := Lib.hid (alloc_below _ _)
  clear hXp hbf h
  go_enter Tryz.func110, Tryz.ntmps110
  go_wp2_with (refine wpList_load_mid rfl 43 (.tmp 5) rfl w.heap.size 0 rfl Xp _ (blk_whole KP.out) Tryz.underlying43 rfl HSz.out ?_)
  refine (HFi.out _ HB.out).mono ?_
  rintro e w1 ⟨rfl, b1⟩
  replace KP := Lib.hid (Blk.keep KP.out b1)
  replace HB := Lib.hid (bthen HB.out b1)
  clear b1 HFi
  cases bf with
  | false =>
    go_wp2
    go_ret
    obtain ⟨e1, e2, _⟩ := fits_no7 HBF.out R row 0
    exact ⟨by rw [e1]; rfl, by rw [e2]; exact TU.same HT.out HB.out⟩
  | true =>
    obtain ⟨c1, f1, hg1⟩ := (HT.out.keep HB.out).cells
    subst hv
    obtain ⟨n, hn⟩ : ∃ n, n = R.length := ⟨_, rfl⟩
    have HN := Lib.hid hn
    rw [← hn] at c1 hlen hcapv
    by_cases h0 : 0 ≤ row
    · by_cases hlt : row < (n : Int)
      · have HIn : Hid (inR R row = true) := Lib.hid (by unfold inR; rw [Bool.and_eq_true, decide_eq_true_eq, decide_eq_true_eq, ← hn]; exact ⟨h0, hlt⟩)
        obtain ⟨r, hr, hrl⟩ := inR_nat7 HIn.out
        subst hr
        have HRl := Lib.hid hrl
        clear hrl hn
        have c1' : (w1.alloc (.cells #[] 140)).cell? ⟨g, o + 1, none⟩ = some (.slice av n capv) := cell_keep c1 (alloc_below _ _)
        have HCV : Hid (ColR (w1.alloc (.cells #[] 140)) (.slice av n capv) R) := Lib.hid (by rw [HN.out]; exact (HT.out.keep (balloc HB.out _)).col)
        go_wp2_with (at_builtin; refine wpList_copyC rfl (.tmp 25) (.tmp 29) 90 140 25 200 (.agg (rcells (0, zT)).toArray) rcells rfl Tryz.underlying90 rinfo rfl (by decide) (by decide) (fun _ => rfl) rone w1.heap.size rfl (Blk.new _ _ _) (.slice av n capv) R rfl HCV.out (by rw [← HN.out]; omega) ?_)
        intro v1 w3 hc hgr hat
        obtain ⟨bel3, kp3, _, hsz⟩ := copy_out HB.out KP.out hgr hc (by simpa using hat)
        obtain ⟨g1, cap1, cur1, hv1, hbk1, hcap1, hmax1, _, _⟩ := hc.open_ (by have := HRl.out; omega)
        subst hv1
        rw [← HN.out] at hc hcap1 ⊢
        have hge : w.heap.size ≤ g1 := Nat.le_trans HB.out.size (hsz g1 rfl)
        have HTh : Hid (w3.there g1 (r * 25 + 1) Xp.toArray.size) := Lib.hid (by rw [List.size_toArray, HPl.out]; exact there_part hc HRl.out)
        have HC3 := Lib.hid (HPart.out w3 g1 n cap1 r hc HRl.out)
        have HB3 : Hid (Below w.heap.size w (w3.setCells g1 (r * 25 + 1) Xp)) := Lib.hid (below_setCells _ bel3 hge)
        have KP3 := Lib.hid kp3
        have hg1l := hbk1.lt
        have hgp := kp3.lt
        have r0 : (0 : Int) ≤ (r : Int) := by omega
        unfold maxLen at hmax1
        clear hc hgr hat bel3 kp3 hsz hbk1 c1 c1' f1 hg1 HCV KP HB HPart
        go_upto_region 8 with (first | refine wpList_load_mid rfl 43 (.tmp 5) rfl w.heap.size 0 rfl Xp _ (blk_whole KP3.out) Tryz.underlying43 rfl HSz.out ?_ | refine wpList_store_mid rfl 43 (.tmp 35) (.tmp 33) rfl g1 (r * 25 + 1) Xp.toArray rfl rfl HTh.out HSz'.out HO.out ?_)
        refine fin (fun W => Below w.heap.size w W ∧ ColR W (.slice (some ⟨g1, 0, none⟩) n cap1) (R.set r ((R.getD r d0).1, P))) ⟨HB3.out, HC3.out⟩ ?_
        clear HB3 HC3 HTh KP3 hg1l hgp
        rintro W4 ⟨hb4, hc4⟩
        obtain ⟨c1, f1, hg1⟩ := (HT.out.keep hb4).cells
        rw [← HN.out] at c1
        have HTU := Lib.hid (TU.store HT.out hb4 hc4 (fun b e => by
          have : g1 = b := by simpa [Value.ownBlock] using e
          rw [← this]; exact hge))
        clear hb4 hc4
        go_wp2
        go_ret
        have e1 : tpuE s R (r : Int) P = 0 := by unfold tpuE; rw [HBF.out, HIn.out]; rfl
        have e2 : tpuR s R (r : Int) P = R.set r ((R.getD r d0).1, P) := by unfold tpuR; rw [e1]; rfl
        exact ⟨by rw [e1]; rfl, by rw [e2]; exact HTU.out⟩
      · have HIn : Hid (inR R row = false) := Lib.hid (by unfold inR; rw [Bool.and_eq_false_iff]; exact Or.inr (by rw [decide_eq_false_iff_not, ← hn]; exact hlt))
        clear hn
        go_wp2
        go_ret
        have e1 : tpuE s R row P = 4 := by unfold tpuE; rw [HBF.out, HIn.out]; rfl
        exact ⟨by rw [e1]; rfl, by unfold tpuR; rw [e1]; exact TU.same HT.out HB.out⟩
    · have HIn : Hid (inR R row = false) := Lib.hid (by unfold inR; rw [Bool.and_eq_false_iff]; exact Or.inl (by rw [decide_eq_false_iff_not]; exact h0))
      clear hn
      go_wp2
      go_ret
      have e1 : tpuE s R row P = 4 := by unfold tpuE; rw [HBF.out, HIn.out]; rfl
      exact ⟨by rw [e1]; rfl, by unfold tpuR; rw [e1]; exact TU.same HT.out HB.out⟩

theorem take_set7 {R : TR} {i : Nat} {x : Int × PT} : (R.set i x).take i = R.take i := by
  refine List.ext_getElem? (fun j => ?_)
  rw [List.getElem?_take, List.getElem?_take]
  split
  · rw [List.getElem?_set_ne (by omega)]
  · rfl
theorem LRes.own {w w' : World} {v : Value} {n : Nat} {zs : List Int} (h : OwnD w' w.heap.size v n zs) : LRes w w' zs v := by
  obtain ⟨a, cap, e, hr⟩ := h.row
  have hl : zs.length = n := hr.1
  rw [← hl] at e hr
  refine ⟨a, cap, e, hr, Or.inr (fun ad ea => ?_)⟩
  refine (World.ownsRow.lt h ad.block ?_).1
  rw [e, ea]
  rfl

set_option maxHeartbeats 4000000 in
set_option maxRecDepth 100000 in
theorem rcut_any {w : World} {g o : Nat} {t : TypeId} {N : Nat} {f : Nat → Value} {s : Int} {v : Value} {R : TR} (h : TV w g o t N f s v R) (row : Int) :
    Calls Tryz.prog 104 #[.pointer (some ⟨g, o, none⟩), .int .i64 row] w fun e w' => e = .returned (.tuple #[.int .i64 (tcuV R row), .int .i64 (tcuE R row)]) ∧ TU w w' g o t N f (tcuR R row) := by
  have HT := Lib.hid h
  have hlen := h.len
  obtain ⟨av, capv, hv, hcapv, hmaxv⟩ := h.col.form
  subst hv
  obtain ⟨c1, f1, hg1⟩ := h.cells
  have HB : Hid (Below w.heap.size w w) := Lib.hid (Below.refl _ _)
  obtain ⟨n, hn⟩ : ∃ n, n = R.length := ⟨_, rfl⟩
  have HN := Lib.hid hn
  rw [← hn] at c1 hlen hcapv
  by_cases hin : 0 ≤ row ∧ row < (n : Int)
  · have HIn : Hid (inR R row = true) := Lib.hid (by unfold inR; rw [Bool.and_eq_true, decide_eq_true_eq, decide_eq_true_eq, ← hn]; exact hin)
    obtain ⟨r, hr, hrl⟩ := inR_nat7 HIn.out
    subst hr
    obtain ⟨m, rfl⟩ : ∃ m, n = m + 1 := ⟨n - 1, by omega⟩
    have HRl := Lib.hid hrl
    have e1 : Hid (tcuE R (r : Int) = 0) := Lib.hid (by unfold tcuE; rw [HIn.out]; rfl)
    have e3 : Hid (tcuR R (r : Int) = (R.set r (R.getD m d0)).take m) := Lib.hid (by unfold tcuR; rw [HIn.out, ← hn]; rfl)
    have hrm : r ≤ m := by omega
    have r0 : (0 : Int) ≤ (r : Int) := by omega
    have r1 : (r : Int) ≤ (m : Int) := by omega
    have m0 : (0 : Int) ≤ (m : Int) := by omega
    have c1' : (w.alloc (.cells #[] 140)).cell? ⟨g, o + 1, none⟩ = some (.slice av (m + 1) capv) := cell_keep c1 (alloc_below _ _)
    have HCV : Hid (ColR (w.alloc (.cells #[] 140)) (.slice av (m + 1) capv) R) := Lib.hid (by rw [HN.out]; exact (h.keep (alloc_below _ _)).col)
    obtain ⟨C0, hC0, _⟩ := h.row
    have K0 : Hid (Blk w g t C0) := Lib.hid hC0
    clear hC0
    clear hin hrl hn h
    go_enter Tryz.func104, Tryz.ntmps104
    go_wp2_with (at_builtin; refine wpList_copyC rfl (.tmp 22) (.tmp 26) 90 140 25 200 (.agg (rcells (0, zT)).toArray) rcells rfl Tryz.underlying90 rinfo rfl (by decide) (by decide) (fun _ => rfl) rone w.heap.size rfl (Blk.new _ _ _) (.slice av (m + 1) capv) R rfl HCV.out (by rw [← HN.out]; omega) ?_)
    intro v1 w3 hc hgr hat
    obtain ⟨bel3, -, -, hsz⟩ := copy_out HB.out K0.out hgr hc (by simpa using hat)
    obtain ⟨g1, cap1, cur1, hv1, hbk1, hcap1, hmax1, _, _⟩ := hc.open_ (by have := HRl.out; omega)
    subst hv1
    rw [← HN.out] at hc hcap1 ⊢
    have hge : w.heap.size ≤ g1 := hsz g1 rfl
    have hg1l := hbk1.lt
    unfold maxLen at hmax1
    have hml : m < R.length := by rw [← HN.out]; omega
    by_cases hlt : r < m
    · have ev : Hid (tcuV R (r : Int) = (R.getD m d0).1) := Lib.hid (by unfold tcuV; rw [HIn.out, if_pos rfl, if_pos (by rw [← HN.out]; omega), ← HN.out]; rfl)
      have hrng := ColX.range (c := rcells) (k := 25) (fun _ => rfl) hc (getD_at (i := m) hml)
      have hth := ColX.there (c := rcells) (k := 25) hc (i := r) HRl.out
      have hset := ColX.set_ (c := rcells) (k := 25) (fun _ => rfl) hc (i := r) HRl.out (R.getD m d0)
      have hid : (w3.setCells g1 (r * 25) (rcells (R.getD m d0))).cell? ⟨g1, m * 25, none⟩ = some (.int .i64 (R.getD m d0).1) := by
        have h2 : (R.set r (R.getD m d0))[m]? = some (R.getD m d0) := by rw [List.getElem?_set_ne (by omega)]; exact getD_at hml
        exact (ColX.range (c := rcells) (k := 25) (fun _ => rfl) hset h2) 0 _ rfl
      obtain ⟨zr, hzr⟩ : ∃ zr, zr = R.getD m d0 := ⟨_, rfl⟩
      rw [← hzr] at hrng hset hid ev e3
      have HSz := Lib.hid (rrow_size zr)
      have HSz' := Lib.hid (rrow_size' zr)
      have HO := Lib.hid (rcells_one zr)
      obtain ⟨Xr, hXr⟩ : ∃ Xr, Xr = rcells zr := ⟨_, rfl⟩
      rw [← hXr] at hrng hset hid HSz HSz' HO
      have hXl : Xr.length = 25 := by rw [hXr]; rfl
      have HR := Lib.hid hrng
      have HTh : Hid (w3.there g1 (r * 25) Xr.toArray.size) := Lib.hid (by rw [List.size_toArray, hXl]; exact hth)
      have HX3 : Hid (Below w.heap.size w (w3.setCells g1 (r * 25) Xr) ∧ ColR (w3.setCells g1 (r * 25) Xr) (.slice (some ⟨g1, 0, none⟩) (m + 1) cap1) (R.set r zr) ∧ (w3.setCells g1 (r * 25) Xr).cell? ⟨g1, m * 25, none⟩ = some (.int .i64 zr.1) ∧ g1 < (w3.setCells g1 (r * 25) Xr).heap.size) := Lib.hid ⟨below_setCells _ bel3 hge, hset, hid, World.block_lt_of_cell? _ _ hid⟩
      have r2 : (r : Int) < (m : Int) := by omega
      clear hc hgr hat bel3 hsz hbk1 hrng hth hset hid hzr hXr c1 c1' f1 hg1 HCV K0
      go_upto_region 8 with (first | refine wpList_load_mid rfl 140 (.tmp 35) rfl g1 (m * 25) rfl Xr _ HR.out Tryz.underlying140 rfl HSz.out ?_ | refine wpList_store_mid rfl 140 (.tmp 37) (.tmp 36) rfl g1 (r * 25) Xr.toArray rfl rfl HTh.out HSz'.out HO.out ?_)
      refine fin (fun W => Below w.heap.size w W ∧ ColR W (.slice (some ⟨g1, 0, none⟩) (m + 1) cap1) (R.set r zr) ∧ W.cell? ⟨g1, m * 25, none⟩ = some (.int .i64 zr.1) ∧ g1 < W.heap.size) HX3.out ?_
      clear HX3 HTh HR hg1l
      rintro W4 ⟨hb4, hc4, cid, hg1l⟩
      obtain ⟨c1, f1, hg1⟩ := (HT.out.keep hb4).cells
      rw [← HN.out] at c1
      have HTU := Lib.hid (TU.store HT.out hb4 (ColX.take_ (c := rcells) (k := 25) (fun _ => rfl) hc4 (by rw [List.length_set]; omega) (m := m) (by rw [List.length_set]; omega)) (fun b e => by
        have : g1 = b := by simpa [Value.ownBlock] using e
        rw [← this]; exact hge))
      obtain ⟨zi, hzi⟩ : ∃ zi, zi = zr.1 := ⟨_, rfl⟩
      rw [← hzi] at cid ev
      clear hb4 hc4 hzi
      go_wp2
      go_ret2
      exact ⟨by rw [e1.out, ev.out]; rfl, by rw [e3.out]; exact HTU.out⟩
    · obtain rfl : r = m := by omega
      have ev : Hid (tcuV R (r : Int) = -1) := Lib.hid (by unfold tcuV; rw [HIn.out, if_pos rfl, if_neg (by rw [← HN.out]; omega)])
      rw [take_set7] at e3
      have r2 : ¬ (r : Int) < (r : Int) := by omega
      obtain ⟨c1, f1, hg1⟩ := (HT.out.keep bel3).cells
      rw [← HN.out] at c1
      have HTU := Lib.hid (TU.store HT.out bel3 (ColX.take_ (c := rcells) (k := 25) (fun _ => rfl) hc (by omega) (m := r) (by omega)) (fun b e => by
        have : g1 = b := by simpa [Value.ownBlock] using e
        rw [← this]; exact hge))
      clear hc hgr hat bel3 hsz hbk1 c1' HCV K0
      go_wp2
      go_ret2
      exact ⟨by rw [e1.out, ev.out]; rfl, by rw [e3.out]; exact HTU.out⟩
  · have HIn : Hid (inR R row = false) := Lib.hid (by
      rw [Bool.eq_false_iff]
      intro c
      unfold inR at c
      rw [Bool.and_eq_true, decide_eq_true_eq, decide_eq_true_eq, ← hn] at c
      exact hin c)
    have e1 : Hid (tcuE R row = 4) := Lib.hid (by unfold tcuE; rw [HIn.out]; rfl)
    have ev : Hid (tcuV R row = -1) := Lib.hid (by unfold tcuV; rw [HIn.out]; rfl)
    have e3 : Hid (tcuR R row = R) := Lib.hid (by unfold tcuR; rw [HIn.out]; rfl)
    clear hn h
    by_cases h0 : 0 ≤ row
    · have h1 : (n : Int) - 1 < row := by omega
      clear hin
      go_enter Tryz.func104, Tryz.ntmps104
      go_wp2
      go_ret2
      exact ⟨by rw [e1.out, ev.out]; rfl, by rw [e3.out]; exact TU.same HT.out HB.out⟩
    · clear hin
      go_enter Tryz.func104, Tryz.ntmps104
      go_wp2
      go_ret2
      exact ⟨by rw [e1.out, ev.out]; rfl, by rw [e3.out]; exact TU.same HT.out HB.out⟩

def mk8 (m : Int × Int) : Int × PT := (m.1, m.2, zI, 0, zI, 0, 0, false, 0)
def cM (x : Int × PT) : List Value := [.int .i64 x.1, .int .i64 x.2.1]
abbrev ColM (w : World) (v : Value) (l : List (Int × Int)) : Prop := ColX w 135 2 cM v (l.map mk8)
def stE (tv : Nat → Value) (now : Int) (cv gv : Value) (j : Nat) : Value := if j < 577 then (if j % 2 = 1 then .int .i64 (((j - 513) / 2 : Nat) : Int) else tv ((j - 514) / 2)) else if j = 577 then .int .i64 now else if j = 578 then cv else gv
def sF (S : St) (tv : Nat → Value) (cv gv : Value) : Nat → Value := poolX (stE tv S.now cv gv) S.room S.G S.L
section
variable {S : St} {tv : Nat → Value} {cv gv : Value} {i : Nat}
theorem sF_set (hi : i < 32) : sF S tv cv gv (513 + i * 2) = .int .i64 i := by
  unfold sF poolX stE
  rw [if_neg (by omega), if_pos (by omega), if_pos (by omega), show (513 + i * 2 - 513) / 2 = i by omega]
theorem sF_tab (hi : i < 32) : sF S tv cv gv (513 + i * 2 + 1) = tv i := by
  unfold sF poolX stE
  rw [if_neg (by omega), if_pos (by omega), if_neg (by omega), show (513 + i * 2 + 1 - 514) / 2 = i by omega]
theorem sF_now : sF S tv cv gv 577 = .int .i64 S.now := rfl
theorem sF_ch : sF S tv cv gv 578 = cv := rfl
theorem sF_go : sF S tv cv gv 579 = gv := rfl
theorem upv_tab {T' : Nat → TR} (hi : i < 32) (v : Value) (j : Nat) : upv (sF S tv cv gv) (513 + i * 2 + 1) v j = sF { S with T := T' } (upf tv i v) cv gv j := by
  unfold upv sF poolX stE upf
  by_cases c : j = 513 + i * 2 + 1
  · rw [if_pos c, if_neg (by omega), if_pos (by omega), if_neg (by omega), if_pos (by omega)]
  · rw [if_neg c]
    by_cases d : j < 513
    · rw [if_pos d, if_pos d]
    · rw [if_neg d, if_neg d]
      by_cases e : j < 577
      · rw [if_pos e, if_pos e]
        by_cases q : j % 2 = 1
        · rw [if_pos q, if_pos q]
        · rw [if_neg q, if_neg q, if_neg (by omega)]
      · rw [if_neg e, if_neg e]
theorem upv_ch {c' : List (Int × Int)} (v : Value) (j : Nat) : upv (sF S tv cv gv) 578 v j = sF { S with ch := c' } tv v gv j := by
  unfold upv sF poolX stE
  by_cases c : j = 578
  · rw [if_pos c, if_neg (by omega), if_neg (by omega), if_neg (by omega), if_pos c]
  · rw [if_neg c]
    by_cases d : j < 513
    · rw [if_pos d, if_pos d]
    · rw [if_neg d, if_neg d, if_neg c, if_neg c]
theorem upv_go {c' : List (Int × Int)} (v : Value) (j : Nat) (hj : j < 580) : upv (sF S tv cv gv) 579 v j = sF { S with go := c' } tv cv v j := by
  unfold upv sF poolX stE
  by_cases c : j = 579
  · rw [if_pos c, if_neg (by omega), if_neg (by omega), if_neg (by omega), if_neg (by omega)]
  · rw [if_neg c]
    by_cases d : j < 513
    · rw [if_pos d, if_pos d]
    · rw [if_neg d, if_neg d]
      by_cases e : j < 577
      · rw [if_pos e, if_pos e]
      · rw [if_neg e, if_neg e]
        by_cases q : j = 577
        · rw [if_pos q, if_pos q]
        · rw [if_neg q, if_neg q, if_pos (by omega), if_pos (by omega)]
end
structure RS (w : World) (g : Nat) (S : St) (tv : Nat → Value) (cv gv : Value) : Prop where
  row : w.rowIs g 96 580 (sF S tv cv gv)
  tab : ∀ i, i < 32 → ColR w (tv i) (S.T i)
  chs : ColM w cv S.ch
  gos : ColM w gv S.go
  offT : ∀ i, i < 32 → (tv i).ownBlock ≠ some g
  offC : cv.ownBlock ≠ some g
  offG : gv.ownBlock ≠ some g
  sepT : ∀ i, i < 32 → ∀ b, gv.ownBlock = some b → (tv i).ownBlock ≠ some b
  sepC : ∀ b, gv.ownBlock = some b → cv.ownBlock ≠ some b
def foot8 (g : Nat) (tv : Nat → Value) (cv gv : Value) (b : Nat) : Prop := b = g ∨ (∃ i, i < 32 ∧ (tv i).ownBlock = some b) ∨ cv.ownBlock = some b ∨ gv.ownBlock = some b
def RB (w : World) (g : Nat) (F : Nat → Prop) (S : St) : Prop := ∃ tv cv gv, RS w g S tv cv gv ∧ ∀ b, F b ↔ foot8 g tv cv gv b
section
variable {w w' : World} {g : Nat} {S S' : St} {tv tv' : Nat → Value} {cv cv' gv : Value}
theorem RS.inb (h : RS w g S tv cv gv) : ∀ b, foot8 g tv cv gv b → b < w.heap.size := by
  rintro b (rfl | ⟨i, hi, e⟩ | e | e)
  · exact h.row.lt
  · exact (World.ownsRow.lt (h.tab i hi) b e).2
  · exact (World.ownsRow.lt h.chs b e).2
  · exact (World.ownsRow.lt h.gos b e).2
theorem RS.same (h : RS w g S tv cv gv) (he : ∀ b, foot8 g tv cv gv b → w'.heap[b]? = w.heap[b]?) : RS w' g S tv cv gv :=
  ⟨h.row.of_block (he g (Or.inl rfl)), fun i hi => (h.tab i hi).same (fun b e => he b (Or.inr (Or.inl ⟨i, hi, e⟩))), ColX.same h.chs (fun b e => he b (Or.inr (Or.inr (Or.inl e)))), ColX.same h.gos (fun b e => he b (Or.inr (Or.inr (Or.inr e)))), h.offT, h.offC, h.offG, h.sepT, h.sepC⟩
theorem RS.keep (h : RS w g S tv cv gv) (hb : Below w.heap.size w w') : RS w' g S tv cv gv := h.same (fun b hf => hb.block b (h.inb b hf))
theorem RS.view (h : RS w g S tv cv gv) {i : Nat} (hi : i < 32) (hl : (S.T i).length ≤ 1000) : TV w g (513 + i * 2) 96 580 (sF S tv cv gv) i (tv i) (S.T i) :=
  ⟨h.row, by omega, sF_set hi, sF_tab hi, h.tab i hi, h.offT i hi, hl⟩
theorem RS.move (h : RS w g S tv cv gv) (hg : w.grownBy w' (some g)) (row : w'.rowIs g 96 580 (sF S' tv' cv' gv)) (tab : ∀ i, i < 32 → ColR w' (tv' i) (S'.T i) ∧ ∀ b, (tv' i).ownBlock = some b → tv i = tv' i ∨ w.heap.size ≤ b)
    (chs : ColM w' cv' S'.ch ∧ ∀ b, cv'.ownBlock = some b → cv = cv' ∨ w.heap.size ≤ b) (hgo : S'.go = S.go) : RS w' g S' tv' cv' gv ∧ Fr w w' (foot8 g tv cv gv) ∧ ∀ b, foot8 g tv' cv' gv b → foot8 g tv cv gv b ∨ w.heap.size ≤ b := by
  have hgl := h.row.lt
  have hgv : ∀ b, gv.ownBlock = some b → b < w.heap.size := fun b e => (World.ownsRow.lt h.gos b e).2
  refine ⟨⟨row, fun i hi => (tab i hi).1, chs.1, ?_, fun i hi e => ?_, fun e => ?_, h.offG, fun i hi b e c => ?_, fun b e c => ?_⟩, ⟨hg.os, hg.tape, hg.output, hg.size, fun b hb hn => hg.block b hb (fun e => hn (Or.inl (by injection e)))⟩, ?_⟩
  · rw [hgo]
    exact ColX.same h.gos (fun b e => hg.block b (hgv b e) (fun c => h.offG (by rw [e]; exact c)))
  · rcases (tab i hi).2 g e with c | c
    · exact h.offT i hi (c ▸ e)
    · omega
  · rcases chs.2 g e with c | c
    · exact h.offC (c ▸ e)
    · omega
  · rcases (tab i hi).2 b c with d | d
    · exact h.sepT i hi b e (d ▸ c)
    · have := hgv b e; omega
  · rcases chs.2 b c with d | d
    · exact h.sepC b e (d ▸ c)
    · have := hgv b e; omega
  · rintro b (rfl | ⟨i, hi, e⟩ | e | e)
    · exact Or.inl (Or.inl rfl)
    · rcases (tab i hi).2 b e with c | c
      · exact Or.inl (Or.inr (Or.inl ⟨i, hi, c ▸ e⟩))
      · exact Or.inr c
    · rcases chs.2 b e with c | c
      · exact Or.inl (Or.inr (Or.inr (Or.inl (c ▸ e))))
      · exact Or.inr c
    · exact Or.inl (Or.inr (Or.inr (Or.inr e)))
theorem RS.colT (h : RS w g S tv cv gv) (hg : w.grownBy w' (some g)) {i : Nat} (hi : i < 32) : ColR w' (tv i) (S.T i) := (h.tab i hi).same (fun b e => hg.block b (World.ownsRow.lt (h.tab i hi) b e).2 (fun c => h.offT i hi (by rw [e]; exact c)))
theorem RS.colC (h : RS w g S tv cv gv) (hg : w.grownBy w' (some g)) : ColM w' cv S.ch := ColX.same h.chs (fun b e => hg.block b (World.ownsRow.lt h.chs b e).2 (fun c => h.offC (by rw [e]; exact c)))
theorem RS.table (h : RS w g S tv cv gv) {i : Nat} (hi : i < 32) {R : TR} (hu : TU w w' g (513 + i * 2) 96 580 (sF S tv cv gv) R) : ∃ tv', RS w' g { S with T := upf S.T i R } tv' cv gv ∧ Fr w w' (foot8 g tv cv gv) ∧ ∀ b, foot8 g tv' cv gv b → foot8 g tv cv gv b ∨ w.heap.size ≤ b := by
  obtain ⟨v, hr, hc, hv, hg⟩ := hu
  refine ⟨upf tv i v, h.move hg (hr.congr (fun j _ => upv_tab hi v j)) (fun j hj => ?_) ⟨h.colC hg, fun b _ => Or.inl rfl⟩ rfl⟩
  show ColR w' (upf tv i v j) (upf S.T i R j) ∧ _
  unfold upf
  by_cases c : j = i
  · rw [if_pos c, if_pos c]
    refine ⟨hc, fun b e => ?_⟩
    rw [sF_tab hi] at hv
    rcases (hv b e).2 with d | d
    · exact Or.inl (by rw [c]; exact d)
    · exact Or.inr d
  · rw [if_neg c, if_neg c]
    exact ⟨h.colT hg hj, fun b _ => Or.inl rfl⟩
end

theorem at_none8 {S : St} {id : Int} (h : ∀ j, j < 32 → hasId (S.T j) id = false) : atS S id = none := by
  unfold atS
  rw [List.find?_eq_none]
  intro j hj
  rw [h j (List.mem_range.1 hj)]
  simp
theorem at_some8 {S : St} {id : Int} {k : Nat} (hk : k < 32) (h : ∀ j, j < k → hasId (S.T j) id = false) (hh : hasId (S.T k) id = true) : atS S id = some k := by
  unfold atS
  rw [List.find?_range_eq_some]
  exact ⟨hh, List.mem_range.2 hk, fun j hj => by rw [h j hj]; rfl⟩
def atI (S : St) (id : Int) : Int := match atS S id with | some i => (i : Int) | none => -1
def atR (S : St) (id : Int) : Int := match atS S id with | some i => findI (S.T i) id | none => -1
set_option maxHeartbeats 2000000 in
set_option maxRecDepth 100000 in
theorem rat_any {w : World} {g : Nat} {S : St} {tv : Nat → Value} {cv gv : Value} (h : RS w g S tv cv gv) (hl : ∀ i, i < 32 → (S.T i).length ≤ 1000) (id : Int) :
    Calls Tryz.prog 78 #[.pointer (some ⟨g, 0, none⟩), .int .i64 id] w fun e w' => e = .returned (.tuple #[.int .i64 (atI S id), .int .i64 (atR S id)]) ∧ w = w' := by
  have HF : Hid (∀ i, i < 32 → Calls Tryz.prog 115 #[.pointer (some ⟨g, 513 + i * 2, none⟩), .int .i64 id] w fun e w' => e = .returned (.int .i64 (findI (S.T i) id)) ∧ w = w') := Lib.hid (fun i hi => rfind_any (h.view hi (hl i hi)) id)
  have hg := h.row.lt
  clear h hl
  go_enter Tryz.func78, Tryz.ntmps78
  go_wp2
  go_loopw [6, 7] (fun i _ wr => ∃ k : Nat, k ≤ 32 ∧ i = .int .i64 k ∧ (∀ j, j < k → hasId (S.T j) id = false) ∧ wr = w) (fun i _ _ => 32 - (intOf i).toNat)
  case atStart => exact ⟨0, by omega, rfl, fun j hj => by omega, rfl⟩
  case round =>
    obtain ⟨k, hk, rfl, hz, rfl⟩ := hrel
    have HZ := Lib.hid hz
    clear hz
    by_cases hlt : k < 32
    · have k0 : (0 : Int) ≤ (k : Int) := by omega
      have k1 : (k : Int) < 32 := by omega
      have HK : Hid (Calls Tryz.prog 115 #[.pointer (some ⟨g, 513 + k * 2, none⟩), .int .i64 id] wr fun e w' => e = .returned (.int .i64 (findI (S.T k) id)) ∧ wr = w') := Lib.hid (HF.out k hlt)
      by_cases hh : hasId (S.T k) id = true
      · have q0 : 0 ≤ findI (S.T k) id := has_find7 hh
        have HA := Lib.hid (at_some8 hlt HZ.out hh)
        obtain ⟨q, hq⟩ : ∃ q, q = findI (S.T k) id := ⟨_, rfl⟩
        have HQ := Lib.hid hq
        rw [← hq] at HK q0
        clear hh hq
        go_wp2_with fail
        refine HK.out.mono ?_
        rintro e w1 ⟨rfl, rfl⟩
        go_wp2
        go_ret2
        have e1 : atI S id = (k : Int) := by unfold atI; rw [HA.out]
        have e2 : atR S id = q := by unfold atR; rw [HA.out, HQ.out]
        exact ⟨by rw [e1, e2]; rfl, rfl⟩
      · have hh' : hasId (S.T k) id = false := by simpa using hh
        have HH := Lib.hid hh'
        rw [hasnt_find7 hh'] at HK
        clear hh hh'
        go_wp2_with fail
        refine HK.out.mono ?_
        rintro e w1 ⟨rfl, rfl⟩
        go_wp2
        go_roundw
        case rel => exact ⟨k + 1, by omega, by go_num, fun j hj => by
          rcases Nat.lt_succ_iff_lt_or_eq.1 hj with c | c
          · exact HZ.out j c
          · rw [c]; exact HH.out, by trivial⟩
        case measure => simp [intOf] <;> omega
    · obtain rfl : k = 32 := by omega
      have HA := Lib.hid (at_none8 HZ.out)
      go_wp2
      go_ret2
      have e1 : atI S id = -1 := by unfold atI; rw [HA.out]
      have e2 : atR S id = -1 := by unfold atR; rw [HA.out]
      exact ⟨by rw [e1, e2]; rfl, rfl⟩

end Go.Proofs.YtkondkajpmafkaaGreat
