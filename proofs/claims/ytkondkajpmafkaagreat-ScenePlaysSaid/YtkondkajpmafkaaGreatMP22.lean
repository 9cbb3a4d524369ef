/-
  3 texts in one file, each with its own heading.
-/
import Derived.Test.YtkondkajpmafkaaGreatMP21
/-
  The reference's store: what its Get and mark of layer 8 answer.
-/
namespace Go.Proofs.YtkondkajpmafkaaGreat
open Go.RowKit

theorem Chg.rs {w w' : World} {g : Nat} {F : Nat → Prop} {S' : St} {tv tv' : Nat → Value} {cv cv' gv gv' : Value} (hF : ∀ b, F b ↔ foot8 g tv cv gv b) (h : RS w' g S' tv' cv' gv' ∧ Fr w w' (foot8 g tv cv gv) ∧ ∀ b, foot8 g tv' cv' gv' b → foot8 g tv cv gv b ∨ w.heap.size ≤ b) : Chg RB w w' g F S' :=
  ⟨foot8 g tv' cv' gv', ⟨tv', cv', gv', h.1, fun _ => Iff.rfl⟩, ⟨h.2.1.1, h.2.1.2.1, h.2.1.2.2.1, h.2.1.2.2.2.1, fun b hb hn => h.2.1.2.2.2.2 b hb (fun c => hn ((hF b).2 c))⟩, fun b hb => (h.2.2 b hb).imp_left (hF b).2⟩
theorem Chg.trans {SB : World → Nat → (Nat → Prop) → St → Prop} {w w1 w2 : World} {g : Nat} {F F1 : Nat → Prop} {S2 : St} (h1 : Fr w w1 F) (h2 : ∀ b, F1 b → F b ∨ w.heap.size ≤ b) (h : Chg SB w1 w2 g F1 S2) : Chg SB w w2 g F S2 := by
  obtain ⟨F2, hs, hf, hn⟩ := h
  refine ⟨F2, hs, ⟨hf.1.trans h1.1, hf.2.1.trans h1.2.1, hf.2.2.1.trans h1.2.2.1, Nat.le_trans h1.2.2.2.1 hf.2.2.2.1, fun b hb hnf => (hf.2.2.2.2 b (Nat.lt_of_lt_of_le hb h1.2.2.2.1) (fun c => ?_)).trans (h1.2.2.2.2 b hb hnf)⟩, fun b hb => ?_⟩
  · rcases h2 b c with d | d
    · exact hnf d
    · omega
  · rcases hn b hb with d | d
    · exact h2 b d
    · exact Or.inr (Nat.le_trans h1.2.2.2.1 d)
theorem Chg.still {w w' : World} {g : Nat} {F : Nat → Prop} {S : St} (h : RB w g F S) (hb : Below w.heap.size w w') : Chg RB w w' g F S := by
  obtain ⟨tv, cv, gv, h1, hF⟩ := h
  exact ⟨F, ⟨tv, cv, gv, h1.keep hb, hF⟩, ⟨hb.os, hb.tape, hb.output, hb.size, fun b hl _ => hb.block b hl⟩, fun b h => Or.inl h⟩
theorem RB.keep {w w' : World} {g : Nat} {F : Nat → Prop} {S : St} (h : RB w g F S) (hb : Below w.heap.size w w') : RB w' g F S := by
  obtain ⟨tv, cv, gv, h1, hF⟩ := h
  exact ⟨tv, cv, gv, h1.keep hb, hF⟩

theorem b8zero (W : World) : (Instr.build 43 #[]).run Tryz.prog W = .ok (.agg (pl zT).toArray) W := by kernel_rfl
theorem wpList_bldz {ops : Array Oper} {rest : List Oper} {op : Oper} {a : Go.Act} {w : World} {Q : Exit → Go.Act → World → Prop} (hgd : op.guard = none) (t : TypeId) (ho : op.op = .build t #[]) (vr : Value)
    (hrun : ∀ W, (Instr.build t #[]).run Tryz.prog W = .ok vr W)
    (h : wpList Tryz.prog ops Q rest (a.put op.dst vr) w) : wpList Tryz.prog ops Q (op :: rest) a w :=
  wpList_plain hgd fun K hK => by
    have h2 := hK _ _ h
    unfold Oper.wp execOp
    simp only [ho]
    simp [hrun]
    exact h2
set_option maxHeartbeats 4000000 in
set_option maxRecDepth 100000 in
theorem rget_any {w : World} {g : Nat} {S : St} {tv : Nat → Value} {cv gv : Value} (h : RS w g S tv cv gv) (hW : WS S) (hl : ∀ i, i < 32 → (S.T i).length ≤ 1000) (id : Int) :
    Calls Tryz.prog 42 #[.pointer (some ⟨g, 0, none⟩), .int .i64 id] w fun e w' => ∃ Y, e = .returned (.tuple #[.agg (List.toArray Y), .bool (getB S id)]) ∧ Y = pl (getP S id) ∧ Below w.heap.size w w' := by
  have HA : Hid (∀ u, Below w.heap.size w u → Calls Tryz.prog 78 #[.pointer (some ⟨g, 0, none⟩), .int .i64 id] u fun e w' => e = .returned (.tuple #[.int .i64 (atI S id), .int .i64 (atR S id)]) ∧ u = w') := Lib.hid (fun u k => rat_any (h.keep k) hl id)
  have HSz := Lib.hid (pl_size (getP S id))
  have HSz' := Lib.hid (pl_size' (getP S id))
  have HO := Lib.hid (pl_one (getP S id))
  have HL : Hid ((pl (getP S id)).length = Z24.length) := Lib.hid rfl
  have hg := h.row.lt
  have K4 := Lib.hid (Blk.new w 43 Z24.toArray)
  have HB4 : Hid (Below w.heap.size w (w.alloc (.cells Z24.toArray 43))) := Lib.hid (alloc_below _ _)
  cases ha : atS S id with
  | none =>
    have e1 : atI S id = -1 := by unfold atI; rw [ha]
    have e2 : atR S id = -1 := by unfold atR; rw [ha]
    have e3 : getB S id = false := by unfold getB; rw [ha]; rfl
    have e4 : getP S id = zT := by unfold getP; rw [ha]
    rw [e1, e2] at HA
    rw [e3]
    have HBd : Hid (∀ W, (Instr.build 43 #[]).run Tryz.prog W = .ok (.agg (pl (getP S id)).toArray) W) := Lib.hid (by rw [e4]; exact b8zero)
    obtain ⟨Xp, hXp⟩ : ∃ Xp, Xp = pl (getP S id) := ⟨_, rfl⟩
    rw [← hXp] at HSz HSz' HO HL HBd ⊢
    have HT4 : Hid ((w.alloc (.cells Z24.toArray 43)).there w.heap.size 0 Xp.toArray.size) := Lib.hid (blk_there K4.out (by rw [List.size_toArray, HL.out]; omega))
    have L4 : Hid (Blk ((w.alloc (.cells Z24.toArray 43)).setCells w.heap.size 0 Xp) w.heap.size 43 Xp.toArray) := Lib.hid (blk_over K4.out HL.out)
    clear hXp e1 e2 e3 e4 ha h hW hl
    go_enter Tryz.func42, Tryz.ntmps42
    go_wp2_with fail
    refine (HA.out _ HB4.out).mono ?_
    rintro e w1 ⟨rfl, rfl⟩
    go_wp2_with (first | refine wpList_bldz rfl 43 rfl (.agg Xp.toArray) HBd.out ?_ | refine wpList_store_mid rfl 43 (.tmp 4) (.tmp 16) rfl w.heap.size 0 Xp.toArray rfl rfl HT4.out HSz'.out HO.out ?_)
    refine fin (fun W => Blk W w.heap.size 43 Xp.toArray ∧ Below w.heap.size w W) ⟨L4.out, below_setCells _ (alloc_below _ _) (Nat.le_refl _)⟩ ?_
    rintro W ⟨kr, hb⟩
    have hl := run_loadVar_mid W w.heap.size 0 43 Xp _ (blk_whole kr) Tryz.underlying43 rfl HSz.out
    try simp only [Go.Act.put, List.setIfInBounds_toArray, List.set_cons_zero, List.set_cons_succ]
    exact bodyPost_ret (v := .tuple #[.agg Xp.toArray, .bool false]) (results_cell2 Tryz.results42 rfl rfl hl) rfl ⟨Xp, rfl, rfl, hb⟩
  | some i =>
    obtain ⟨hi, hh⟩ := at_some ha
    obtain ⟨r, hrl, hfr, hrid, hin⟩ := find_row (hW.nod i hi) hh
    have e1 : atI S id = (i : Int) := by unfold atI; rw [ha]
    have e2 : atR S id = (r : Int) := by unfold atR; rw [ha]; exact hfr
    have e3 : getB S id = true := by unfold getB; rw [ha]; rfl
    have e4 : getP S id = ((S.T i).getD r d0).2 := by unfold getP; rw [ha]; simp only; rw [hfr]; rfl
    rw [e1, e2] at HA
    rw [e3]
    have hlen := hl i hi
    obtain ⟨b, cap, cur, hv, hbk, hcap, hmax, _, _⟩ := (h.tab i hi).open_ (by omega)
    have hcol := h.tab i hi
    rw [hv] at hcol
    have hrng : w.rangeAt b (r * 25 + 1) (pl (getP S id)) := by
      have h2 := ColX.range (c := rcells) (k := 25) (fun _ => rfl) hcol (getD_at hrl)
      rw [e4]
      intro j u hu
      have := h2 (j + 1) u (by simpa [rcells] using hu)
      rwa [show r * 25 + 1 + j = r * 25 + (j + 1) by omega]
    have cc : w.cell? ⟨g, 513 + i * 2 + 1, none⟩ = some (.slice (some ⟨b, 0, none⟩) (S.T i).length cap) := by rw [h.row.cell (by omega), sF_tab hi, hv]
    obtain ⟨Xp, hXp⟩ : ∃ Xp, Xp = pl (getP S id) := ⟨_, rfl⟩
    rw [← hXp] at HSz HSz' HO HL hrng ⊢
    obtain ⟨n, hn⟩ : ∃ n, n = (S.T i).length := ⟨_, rfl⟩
    rw [← hn] at cc hrl hcap
    have HR : Hid ((w.alloc (.cells Z24.toArray 43)).rangeAt b (r * 25 + 1) Xp) := Lib.hid (range_same hrng (HB4.out.block b hbk.lt))
    have cc' : (w.alloc (.cells Z24.toArray 43)).cell? ⟨g, 513 + i * 2 + 1, none⟩ = some (.slice (some ⟨b, 0, none⟩) n cap) := cell_keep cc HB4.out
    have HT4 : Hid ((w.alloc (.cells Z24.toArray 43)).there w.heap.size 0 Xp.toArray.size) := Lib.hid (blk_there K4.out (by rw [List.size_toArray, HL.out]; omega))
    have L4 : Hid (Blk ((w.alloc (.cells Z24.toArray 43)).setCells w.heap.size 0 Xp) w.heap.size 43 Xp.toArray) := Lib.hid (blk_over K4.out HL.out)
    have hbl := hbk.lt
    have i0 : (0 : Int) ≤ (i : Int) := by omega
    have i1 : (i : Int) < 32 := by omega
    have r0 : (0 : Int) ≤ (r : Int) := by omega
    have r1 : (r : Int) < (n : Int) := by omega
    unfold maxLen at hmax
    clear hXp e1 e2 e3 e4 ha h hW hl hn hrng cc hbk hcol hv hin hrid hfr hh
    go_enter Tryz.func42, Tryz.ntmps42
    go_wp2_with fail
    refine (HA.out _ HB4.out).mono ?_
    rintro e w1 ⟨rfl, rfl⟩
    go_wp2_with (first | refine wpList_load_mid rfl 43 (.tmp 26) rfl b (r * 25 + 1) rfl Xp _ HR.out Tryz.underlying43 rfl HSz.out ?_ | refine wpList_store_mid rfl 43 (.tmp 4) (.tmp 27) rfl w.heap.size 0 Xp.toArray rfl rfl HT4.out HSz'.out HO.out ?_)
    refine fin (fun W => Blk W w.heap.size 43 Xp.toArray ∧ Below w.heap.size w W) ⟨L4.out, below_setCells _ (alloc_below _ _) (Nat.le_refl _)⟩ ?_
    rintro W ⟨kr, hb⟩
    have hl := run_loadVar_mid W w.heap.size 0 43 Xp _ (blk_whole kr) Tryz.underlying43 rfl HSz.out
    try simp only [Go.Act.put, List.setIfInBounds_toArray, List.set_cons_zero, List.set_cons_succ]
    exact bodyPost_ret (v := .tuple #[.agg Xp.toArray, .bool true]) (results_cell2 Tryz.results42 rfl rfl hl) rfl ⟨Xp, rfl, rfl, hb⟩

theorem minfo : (Tryz.prog.info? 135).map (fun i => (i.zero, i.size, i.bytes)) = some (some (.agg #[.int .i64 0, .int .i64 0]), 2, 16) := by kernel_rfl
theorem mone (x y : Int) : ∀ u ∈ ([.int .i64 x, .int .i64 y] : List Value), u.oneCell' = true := fun u hu => by
  simp only [List.mem_cons, List.not_mem_nil, or_false] at hu
  rcases hu with rfl | rfl <;> rfl
def keepM (l : List (Int × Int)) (id : Int) : List (Int × Int) := l.filter fun x => x.1 != id
theorem keepM_yes {l : List (Int × Int)} {k : Nat} {m : Int × Int} {id : Int} (h : l[k]? = some m) (he : m.1 ≠ id) : keepM (l.take (k + 1)) id = keepM (l.take k) id ++ [m] := by
  unfold keepM
  rw [List.take_add_one, List.filter_append, h]
  simp [he]
theorem keepM_no {l : List (Int × Int)} {k : Nat} {m : Int × Int} {id : Int} (h : l[k]? = some m) (he : m.1 = id) : keepM (l.take (k + 1)) id = keepM (l.take k) id := by
  unfold keepM
  rw [List.take_add_one, List.filter_append, h]
  simp [he]
theorem keepM_len (l : List (Int × Int)) (id : Int) (k : Nat) : (keepM (l.take k) id).length ≤ l.length := by
  unfold keepM
  refine Nat.le_trans (List.length_filter_le _ _) ?_
  rw [List.length_take]; omega
theorem app_out {w wr w' : World} {v : Value} {gu : Nat} {o : Obj} (hb : Below w.heap.size w wr) (hv : ∀ b, v.ownBlock = some b → w.heap.size ≤ b) (hg : (wr.alloc o).grownBy w' v.ownBlock) (hat : v.ownBlock = some gu ∨ (wr.alloc o).heap.size ≤ gu) : Below w.heap.size w w' ∧ w.heap.size ≤ gu := by
  have h1 := balloc hb o
  refine ⟨⟨hg.os.trans h1.os, hg.tape.trans h1.tape, hg.output.trans h1.output, Nat.le_trans h1.size hg.size, fun k hk => (hg.block k (Nat.lt_of_lt_of_le hk h1.size) (fun e => ?_)).trans (h1.block k hk)⟩, ?_⟩
  · have := hv k e.symm; omega
  · rcases hat with e | e
    · exact hv gu e
    · have := h1.size; omega

set_option maxHeartbeats 4000000 in
set_option maxRecDepth 100000 in
theorem rmark_any {w : World} {g : Nat} {F : Nat → Prop} {S : St} (h0 : RB w g F S) (hl : S.ch.length ≤ 1000) (id : Int) :
    Calls Tryz.prog 107 #[.pointer (some ⟨g, 0, none⟩), .int .i64 id] w fun e w' => e = .returned (.tuple #[]) ∧ Chg RB w w' g F { S with ch := markL S.ch id S.now } := by
  obtain ⟨tv, cv, gv, h, hF⟩ := h0
  have HH := Lib.hid h
  have HFF := Lib.hid hF
  obtain ⟨ca, ccap, hcv, hccap, hcmax⟩ := ColX.form h.chs
  have hcl : (S.ch.map mk8).length = S.ch.length := List.length_map _
  obtain ⟨n, hn⟩ : ∃ n, n = S.ch.length := ⟨_, rfl⟩
  rw [hcl, ← hn] at hcv hccap
  have HN := Lib.hid hn
  have HV : Hid (∀ u, Below w.heap.size w u → u.cell? ⟨g, 578, none⟩ = some (.slice ca n ccap) ∧ u.cell? ⟨g, 577, none⟩ = some (.int .i64 S.now) ∧ u.frozen? ⟨g, 578, none⟩ = false ∧ g < u.heap.size ∧ ColM u (.slice ca n ccap) S.ch) := Lib.hid (fun u k => by
    have h2 := h.keep k
    refine ⟨by rw [h2.row.cell (by omega), sF_ch, hcv], by rw [h2.row.cell (by omega), sF_now], h2.row.frozen _, h2.row.lt, ?_⟩
    have h3 := h2.chs
    rw [hcv] at h3
    exact h3)
  rw [← hn] at hl
  clear h hF hcl hn hcv
  go_enter Tryz.func107, Tryz.ntmps107
  go_wp2
  go_loopw [4, 5] (fun v4 i wr => ∃ k : Nat, k ≤ n ∧ i = .int .i64 k ∧ ColM wr v4 (keepM (S.ch.take k) id) ∧ (∀ b, v4.ownBlock = some b → w.heap.size ≤ b) ∧ Below w.heap.size w wr) (fun _ i _ => n - (intOf i).toNat)
  case atStart => exact ⟨0, by omega, rfl, ColX.nil _ _ _ _, fun b e => (by cases e), Below.refl _ _⟩
  case round =>
    obtain ⟨k, hk, rfl, hcol, hown, hb⟩ := hrel
    have HCol := Lib.hid hcol
    have HOwn := Lib.hid hown
    have HB := Lib.hid hb
    clear hcol hown hb
    obtain ⟨c578, c577, f578, hg, hcm⟩ := HV.out wr HB.out
    by_cases hlt : k < n
    · have hks : k < S.ch.length := by rw [← HN.out]; exact hlt
      obtain ⟨m, hm⟩ : ∃ m, S.ch[k]? = some m := ⟨_, List.getElem?_eq_getElem hks⟩
      have hm2 : (S.ch.map mk8)[k]? = some (mk8 m) := by rw [List.getElem?_map, hm]; rfl
      obtain ⟨b, cap', cur, hv, hbk, _⟩ := hcm.open_ (by rw [List.length_map]; omega)
      injection hv with h1 h2 h3
      subst h1
      have hrng := ColX.range (c := cM) (k := 2) (fun _ => rfl) hcm hm2
      have c0 : wr.cell? ⟨b, k * 2, none⟩ = some (.int .i64 m.1) := hrng 0 _ rfl
      have c1 : wr.cell? ⟨b, k * 2 + 1, none⟩ = some (.int .i64 m.2) := hrng 1 _ rfl
      have hbl := hbk.lt
      have j0 : (0 : Int) ≤ (k : Int) := by omega
      have j1 : (k : Int) < (n : Int) := by omega
      obtain ⟨m1, m2⟩ := m
      simp only at c0 c1
      have HM := Lib.hid hm
      clear hbk h2 h3 hrng hm hm2 hcm
      by_cases he : m1 = id
      · have he' : (m1 != id) = false := by simpa using he
        have HK := Lib.hid (keepM_no HM.out he)
        clear he
        go_wp2
        go_roundw
        case rel => exact ⟨k + 1, by omega, by go_num, by rw [HK.out]; exact HCol.out, HOwn.out, HB.out⟩
        case measure => simp [intOf] <;> omega
      · have he' : (m1 != id) = true := by simpa using he
        have HK := Lib.hid (keepM_yes HM.out he)
        clear he
        obtain ⟨Q, hQ⟩ : ∃ Q, Q = keepM (S.ch.take k) id := ⟨_, rfl⟩
        rw [← hQ] at HCol HK
        have hql : (Q.map mk8).length ≤ 2000 := by rw [List.length_map, hQ]; have := keepM_len S.ch id k; rw [← HN.out] at this; omega
        clear hQ
        obtain ⟨Qm, hQm⟩ : ∃ Qm, Qm = Q.map mk8 := ⟨_, rfl⟩
        rw [← hQm] at hql
        have HQm := Lib.hid hQm
        replace HCol : Hid (ColX wr 135 2 cM u4 Qm) := Lib.hid (by rw [hQm]; exact HCol.out)
        clear hQm
        go_wp2_with (at_builtin; refine wpList_appC rfl (.tmp 25) (.tmp 33) 94 135 2 16 (.agg #[.int .i64 0, .int .i64 0]) cM rfl Tryz.underlying94 minfo rfl (by decide) (by decide) (fun _ => rfl) u4 Qm rfl (col_keep HCol.out (alloc_below _ _)) hql (mk8 (m1, m2)) [.int .i64 m1, .int .i64 m2] rfl (mone m1 m2) wr.heap.size (Blk.new _ _ _) rfl ?_)
        intro gu gcap w4 hc hgr hat
        have HX4 := Lib.hid (app_out HB.out HOwn.out hgr (by simpa using hat))
        have HC4 : Hid (ColM w4 (.slice (some ⟨gu, 0, none⟩) (Qm.length + 1) gcap) (keepM (S.ch.take (k + 1)) id)) := Lib.hid (by
          show ColX w4 _ 2 cM _ ((keepM (S.ch.take (k + 1)) id).map mk8)
          rw [HK.out, List.map_append, ← HQm.out]; exact hc)
        clear hc hgr hat
        generalize Qm.length + 1 = nn at HC4 ⊢
        go_wp2
        go_roundw
        case rel => exact ⟨k + 1, by omega, by go_num, HC4.out, fun b e => by
          have : gu = b := by simpa [Value.ownBlock] using e
          rw [← this]; exact HX4.out.2, HX4.out.1⟩
        case measure => simp [intOf] <;> omega
    · obtain rfl : k = n := by omega
      rw [List.take_of_length_le (by rw [← HN.out]; exact Nat.le_refl _)] at HCol
      obtain ⟨Q, hQ⟩ : ∃ Q, Q = keepM S.ch id := ⟨_, rfl⟩
      have HMk : Hid (markL S.ch id S.now = Q ++ [(id, S.now)]) := Lib.hid (by rw [hQ]; rfl)
      rw [← hQ] at HCol
      have hql : (Q.map mk8).length ≤ 2000 := by rw [List.length_map, hQ]; have := keepM_len S.ch id S.ch.length; rw [List.take_length] at this; rw [← HN.out] at this; omega
      clear hQ hcm
      obtain ⟨Qm, hQm⟩ : ∃ Qm, Qm = Q.map mk8 := ⟨_, rfl⟩
      rw [← hQm] at hql
      have HQm := Lib.hid hQm
      replace HCol : Hid (ColX wr 135 2 cM u4 Qm) := Lib.hid (by rw [hQm]; exact HCol.out)
      obtain ⟨nw, hnw⟩ : ∃ nw, nw = S.now := ⟨_, rfl⟩
      rw [← hnw] at c577 HMk
      have HNw := Lib.hid hnw
      clear hQm hnw
      have j1 : ¬ (k : Int) < (k : Int) := by omega
      go_wp2_with (at_builtin; refine wpList_appC rfl (.tmp 35) (.tmp 42) 94 135 2 16 (.agg #[.int .i64 0, .int .i64 0]) cM rfl Tryz.underlying94 minfo rfl (by decide) (by decide) (fun _ => rfl) u4 Qm rfl (col_keep HCol.out (alloc_below _ _)) hql (mk8 (id, nw)) [.int .i64 id, .int .i64 nw] rfl (mone id nw) wr.heap.size (Blk.new _ _ _) rfl ?_)
      intro gu gcap w4 hc hgr hat
      obtain ⟨hb4, hgu⟩ := app_out HB.out HOwn.out hgr (by simpa using hat)
      have HC4 : Hid (ColM w4 (.slice (some ⟨gu, 0, none⟩) (Qm.length + 1) gcap) (markL S.ch id S.now)) := Lib.hid (by
        show ColX w4 _ 2 cM _ ((markL S.ch id S.now).map mk8)
        rw [← HNw.out, HMk.out, List.map_append, ← HQm.out]; exact hc)
      obtain ⟨d578, -, e578, hg4, -⟩ := HV.out w4 hb4
      have HB4 := Lib.hid hb4
      clear hc hgr hat hb4 c578 c577 f578 hg
      generalize Qm.length + 1 = nn at HC4 ⊢
      go_wp2
      go_end0
      refine ⟨rfl, Chg.rs HFF.out (HH.out.move (S' := { S with ch := markL S.ch id S.now }) (tv' := tv) (cv' := .slice (some ⟨gu, 0, none⟩) nn gcap) ?_ ?_ (fun i hi => ?_) ?_ rfl)⟩
      · exact ⟨HB4.out.os, HB4.out.tape, HB4.out.output, Nat.le_trans HB4.out.size (by simp [World.setCell]), fun q hq hne => by
          have : q ≠ g := fun e => hne (by rw [e])
          simp only [World.setCell, Array.getElem?_modify]
          rw [if_neg (fun e => this e.symm)]
          exact HB4.out.block q hq⟩
      · exact ((HH.out.keep HB4.out).row.set 578 _).congr (fun j _ => upv_ch _ j)
      · refine ⟨?_, fun b _ => Or.inl rfl⟩
        refine ColX.same ((HH.out.keep HB4.out).tab i hi) (fun b e => ?_)
        have : b ≠ g := fun c => HH.out.offT i hi (c ▸ e)
        simp only [World.setCell, Array.getElem?_modify]
        rw [if_neg (fun e => this e.symm)]
      · refine ⟨ColX.same HC4.out (fun b e => ?_), fun b e => Or.inr ?_⟩
        · have e' : gu = b := by simpa [Value.ownBlock] using e
          have hgg := HH.out.row.lt
          simp only [World.setCell, Array.getElem?_modify]
          rw [if_neg (by omega)]
        · have e' : gu = b := by simpa [Value.ownBlock] using e
          rw [← e']; exact hgu

theorem gblk8 {w w' : World} {g gp : Nat} {t : TypeId} {C : Array Value} (hg : w.grownBy w' (some g)) (h : Blk w gp t C) (hne : gp ≠ g) : Blk w' gp t C := h.same (hg.block gp h.lt (fun e => hne (by injection e)))
theorem RS.pool {w w' : World} {g : Nat} {S : St} {tv : Nat → Value} {cv gv : Value} (h : RS w g S tv cv gv) {G : Nat → Int} {L : Nat → Bool} (hr : w'.rowIs g 96 580 (poolX (stE tv S.now cv gv) S.room G L)) (hg : w.grownBy w' (some g)) : RS w' g { S with G := G, L := L } tv cv gv ∧ Fr w w' (foot8 g tv cv gv) ∧ ∀ b, foot8 g tv cv gv b → foot8 g tv cv gv b ∨ w.heap.size ≤ b :=
  h.move (S' := { S with G := G, L := L }) hg hr (fun _ hi => ⟨h.colT hg hi, fun _ _ => Or.inl rfl⟩) ⟨h.colC hg, fun _ _ => Or.inl rfl⟩ rfl
theorem TU.grown {w w' : World} {g o : Nat} {t : TypeId} {N : Nat} {f : Nat → Value} {R : TR} (h : TU w w' g o t N f R) : w.grownBy w' (some g) := h.choose_spec.2.2.2

set_option maxHeartbeats 8000000 in
set_option maxRecDepth 100000 in
theorem rspawn_any {w : World} {g : Nat} {F : Nat → Prop} {S : St} (h0 : RB w g F S) (hW : WS S) (hB : Bd S 1000) (P : PT) :
    Calls Tryz.prog 75 #[.pointer (some ⟨g, 0, none⟩), .agg (pl P).toArray] w fun e w' => e = .returned (.tuple #[.int .i64 (spV S P), .int .i64 (spE S P)]) ∧ Chg RB w w' g F (spS S P) := by
  have HRB := Lib.hid h0
  obtain ⟨tv, cv, gv, h, hF⟩ := h0
  have HH := Lib.hid h
  have HFF := Lib.hid hF
  have HB0 := Lib.hid hB
  have HPO := Lib.hid hW.ok
  have hg := h.row.lt
  obtain ⟨r, hr⟩ : ∃ r, rightT P = r := ⟨_, rfl⟩
  have HRc : Hid (∀ w, Calls Tryz.prog 108 #[.agg (pl P).toArray] w fun e w' => e = .returned (.bool r) ∧ Below w.heap.size w w') := Lib.hid (fun w => rrightT hr w)
  have HRt := Lib.hid hr
  have HSz := Lib.hid (pl_size P)
  have HC : Hid (∀ u g, Blk u g 43 (pl P).toArray → u.cell? ⟨g, 0, none⟩ = some (.int .i64 P.1)) := Lib.hid (fun u g k => k.cell 0)
  have HAdd : Hid (∀ (u : World) (g o : Nat) (t : TypeId) (N : Nat) (f : Nat → Value) (s : Int) (v : Value) (R : TR) (id : Int), TV u g o t N f s v R → Calls Tryz.prog 111 #[.pointer (some ⟨g, o, none⟩), .int .i64 id, .agg (pl P).toArray] u fun e w' => e = .returned (.tuple #[.int .i64 (tadN s R id P), .int .i64 (tadE s R id P)]) ∧ TU u w' g o t N f (tadR s R id P)) := Lib.hid (fun u g o t N f s v R id k => radd_any k id P)
  obtain ⟨Xp, hXp⟩ : ∃ Xp, Xp = pl P := ⟨_, rfl⟩
  rw [← hXp] at HRc HSz HC HAdd ⊢
  have KP := Lib.hid (Blk.new w 43 Xp.toArray)
  have HB : Hid (Below w.heap.size w (w.alloc (.cells Xp.toArray 43))) := Lib.hid (alloc_below _ _)
  clear hXp hr h hF hW hB
  go_enter Tryz.func75, Tryz.ntmps75
  go_wp2_with (refine wpList_load_mid rfl 43 (.tmp 3) rfl w.heap.size 0 rfl Xp _ (blk_whole KP.out) Tryz.underlying43 rfl HSz.out ?_)
  refine (HRc.out _).mono ?_
  rintro e w1 ⟨rfl, b1⟩
  replace KP := Lib.hid (Blk.keep KP.out b1)
  replace HB := Lib.hid (bthen HB.out b1)
  clear b1 HRc
  have hg1 : g < w1.heap.size := Nat.lt_of_lt_of_le hg HB.out.size
  cases r with
  | false =>
    go_wp2
    go_ret2
    have e1 : spE S P = 1 := by unfold spE; rw [HRt.out]; rfl
    have e2 : spV S P = 0 := by unfold spV; rw [e1]; rfl
    have e3 : spS S P = S := by unfold spS; rw [e1]; rfl
    exact ⟨by rw [e1, e2]; rfl, by rw [e3]; exact Chg.still HRB.out HB.out⟩
  | true =>
    have HTk : Hid (Calls Tryz.prog 113 #[.pointer (some ⟨g, 0, none⟩)] w1 fun e w' => e = .returned (.tuple #[.int .i64 (tkV S.G S.L S.room), .int .i64 (tkE S.G S.L S.room)]) ∧ w'.rowIs g 96 580 (poolX (stE tv S.now cv gv) S.room S.G (tkL S.G S.L S.room)) ∧ w1.grownBy w' (some g)) := Lib.hid (ptake8 (E := stE tv S.now cv gv) (t := 96) (N := 580) (by omega) g S.room S.G S.L w1 HPO.out.1 HPO.out.gen (HH.out.keep HB.out).row)
    obtain ⟨id, hid⟩ : ∃ id, id = tkV S.G S.L S.room := ⟨_, rfl⟩
    have HId := Lib.hid hid
    obtain ⟨te, hte⟩ : ∃ te, te = tkE S.G S.L S.room := ⟨_, rfl⟩
    have HTe := Lib.hid hte
    rw [← hid, ← hte] at HTk
    clear hid hte
    go_wp2_with fail
    refine HTk.out.mono ?_
    rintro e w2 ⟨rfl, hrow, hgr⟩
    have HG2 := Lib.hid hgr
    have HR2 := Lib.hid ((HH.out.keep HB.out).pool hrow hgr)
    replace KP := Lib.hid (gblk8 hgr KP.out (by omega))
    have hg2 : g < w2.heap.size := Nat.lt_of_lt_of_le hg1 hgr.size
    clear hrow hgr HTk
    cases htk : tkI S.G S.L S.room with
    | none =>
      obtain ⟨t1, t2, t3⟩ := tk_none_v htk
      have te3 : te = 3 := by rw [HTe.out, t2]
      subst te3
      have e1 : Hid (spE S P = 3) := Lib.hid (by unfold spE; rw [HRt.out, t2]; rfl)
      have HS2 : Hid (Chg RB w w2 g F S) := Lib.hid (by
        have h2 := HR2.out
        rw [t3] at h2
        exact (Chg.rs HFF.out h2).of HB.out)
      clear t1 t2 t3 htk HR2
      go_wp2
      go_ret2
      have e2 : spV S P = 0 := by unfold spV; rw [e1.out]; rfl
      have e3 : spS S P = S := by unfold spS; rw [e1.out]; rfl
      exact ⟨by rw [e1.out, e2]; rfl, by rw [e3]; exact HS2.out⟩
    | some i =>
      obtain ⟨t1, t2⟩ := tk_some_v htk
      have te0 : te = 0 := by rw [HTe.out, t2]
      subst te0
      have e1 : Hid (spE S P = 0) := Lib.hid (by unfold spE; rw [HRt.out, t2]; rfl)
      obtain ⟨k32, kk, _, _⟩ := right_has HRt.out
      obtain ⟨k, hk⟩ : ∃ k, k = P.1.toNat := ⟨_, rfl⟩
      rw [← hk] at k32 kk
      have HK := Lib.hid hk
      have HKK := Lib.hid kk
      rw [← kk] at HC
      have k0 : (0 : Int) ≤ (k : Int) := by omega
      have k1 : (k : Int) < 32 := by omega
      have HTL : Hid ((S.T k).length ≤ 1000) := Lib.hid (HB0.out.2.2.1 k k32)
      have HAd : Hid (Calls Tryz.prog 111 #[.pointer (some ⟨g, 513 + k * 2, none⟩), .int .i64 id, .agg Xp.toArray] w2.drew fun e w' => e = .returned (.tuple #[.int .i64 (tadN k (S.T k) id P), .int .i64 (tadE k (S.T k) id P)]) ∧ TU w2.drew w' g (513 + k * 2) 96 580 (sF { S with L := tkL S.G S.L S.room } tv cv gv) (tadR k (S.T k) id P)) := Lib.hid (HAdd.out _ _ _ _ _ _ _ _ _ _ ((HR2.out.1.same (w' := w2.drew) (fun _ _ => rfl)).view k32 HTL.out))
      obtain ⟨z1, hz1⟩ : ∃ z1, z1 = tadN k (S.T k) id P := ⟨_, rfl⟩
      obtain ⟨z2, hz2⟩ : ∃ z2, z2 = tadE k (S.T k) id P := ⟨_, rfl⟩
      rw [← hz1, ← hz2] at HAd
      clear t1 t2 htk hk kk HAdd hz1 hz2
      go_upto_region 7 with fail
      refine wp_region_held_drew (S := fun w' => w'.cell? ⟨w.heap.size, 0, none⟩ = some (.int .i64 k) ∧ w'.rangeAt w.heap.size 0 Xp) (by kernel_rfl) (⟨HC.out _ _ (Blk.drew KP.out), blk_whole (Blk.drew KP.out)⟩) (fun hHeld => ?_)
      refine tk 0 hHeld ?_
      refine tk 1 hHeld ?_
      refine tk 2 hHeld ?_
      refine tk 3 hHeld ?_
      refine tk 4 hHeld ?_
      refine tk 5 hHeld ?_
      refine tk 6 hHeld ?_
      refine tkl 7 rfl (yieldsIf_load_mid (by rfl) _ _ rfl _ _ rfl _ _ (fun _ h => h.2) Tryz.underlying43 rfl HSz.out) hHeld ?_
      refine rd 8 (fun K hK => ?_)
      go_simp
      go_at_call 111
      refine (HAd.out).mono ?_
      rintro e w3 ⟨rfl, tu⟩
      have KN := Lib.hid (gblk8 tu.grown (Blk.drew KP.out) (by omega))
      obtain ⟨tv3, rs3, fr3, new3⟩ := (HR2.out.1.same (w' := w2.drew) (fun _ _ => rfl)).table k32 tu
      have HR3 := Lib.hid rs3
      have HF3 : Hid (Fr w w3 F ∧ ∀ b, foot8 g tv3 cv gv b → F b ∨ w.heap.size ≤ b) := Lib.hid (by
        have hF2 : ∀ b, foot8 g tv cv gv b → F b := fun b hb => (HFF.out b).2 hb
        have f1 : Fr w w2.drew F := Fr.after HB.out ⟨HR2.out.2.1.1, HR2.out.2.1.2.1, HR2.out.2.1.2.2.1, HR2.out.2.1.2.2.2.1, fun b hb hn => HR2.out.2.1.2.2.2.2 b hb (fun c => hn (hF2 b c))⟩
        refine ⟨⟨fr3.1.trans f1.1, fr3.2.1.trans f1.2.1, fr3.2.2.1.trans f1.2.2.1, Nat.le_trans f1.2.2.2.1 fr3.2.2.2.1, fun b hb hn => (fr3.2.2.2.2 b (Nat.lt_of_lt_of_le hb f1.2.2.2.1) (fun c => hn (hF2 b c))).trans (f1.2.2.2.2 b hb hn)⟩, fun b hb => ?_⟩
        rcases new3 b hb with c | c
        · exact Or.inl (hF2 b c)
        · exact Or.inr (Nat.le_trans f1.2.2.2.1 c))
      clear tu rs3 fr3 new3
      go_wp2_with fail
      refine hK.out _ _ (⟨HC.out _ _ KN.out, blk_whole KN.out⟩) (fun hHeld => ?_)
      clear hK K
      refine wpAnyH_done (by kernel_rfl) ?_ _
      clear hHeld KN HAd
      have HMk : Hid (Calls Tryz.prog 107 #[.pointer (some ⟨g, 0, none⟩), .int .i64 id] w3 fun e w' => e = .returned (.tuple #[]) ∧ Chg RB w w' g F (spS S P)) := Lib.hid (by
        have h4 := rmark_any (w := w3) (g := g) (F := foot8 g tv3 cv gv) ⟨tv3, cv, gv, HR3.out, fun _ => Iff.rfl⟩ HB0.out.1 id
        refine h4.mono fun e w' k4 => ⟨k4.1, ?_⟩
        have h5 := Chg.trans HF3.out.1 HF3.out.2 k4.2
        have e3 : spS S P = { S with L := tkL S.G S.L S.room, T := upf S.T k (tadR k (S.T k) id P), ch := markL S.ch id S.now } := by
          unfold spS
          rw [if_pos e1.out, ← HId.out, ← HK.out, ← HKK.out]
        rw [e3]
        exact h5)
      go_wp2_with fail
      refine HMk.out.mono ?_
      rintro e w4 ⟨rfl, ch⟩
      have HCh := Lib.hid ch
      clear ch HMk HR3 HF3
      go_wp2
      go_ret2
      have e2 : spV S P = id := by unfold spV; rw [e1.out, HId.out]; rfl
      exact ⟨by rw [e1.out, e2]; rfl, HCh.out⟩

theorem Fr.two {a b d : World} {F F' : Nat → Prop} (h : Fr a b F) (h' : Fr b d F') (hn : ∀ x, F' x → F x ∨ a.heap.size ≤ x) : Fr a d F :=
  ⟨h'.1.trans h.1, h'.2.1.trans h.2.1, h'.2.2.1.trans h.2.2.1, Nat.le_trans h.2.2.2.1 h'.2.2.2.1, fun x hx hf => (h'.2.2.2.2 x (Nat.lt_of_lt_of_le hx h.2.2.2.1) (fun c => (hn x c).elim (fun d => hf d) (fun d => by omega))).trans (h.2.2.2.2 x hx hf)⟩
theorem RS.next {w w1 w2 : World} {g : Nat} {F : Nat → Prop} {S : St} {tv : Nat → Value} {cv gv : Value} (hs : RS w1 g S tv cv gv) (hf : Fr w w1 F) (hn : ∀ b, foot8 g tv cv gv b → F b ∨ w.heap.size ≤ b) {i : Nat} (hi : i < 32) {R : TR} (hu : TU w1 w2 g (513 + i * 2) 96 580 (sF S tv cv gv) R) :
    ∃ tv', RS w2 g { S with T := upf S.T i R } tv' cv gv ∧ Fr w w2 F ∧ ∀ b, foot8 g tv' cv gv b → F b ∨ w.heap.size ≤ b := by
  obtain ⟨tv', h1, h2, h3⟩ := hs.table hi hu
  refine ⟨tv', h1, hf.two h2 hn, fun b hb => ?_⟩
  rcases h3 b hb with c | c
  · exact hn b c
  · exact Or.inr (Nat.le_trans hf.2.2.2.1 c)
theorem RS.drew {w : World} {g : Nat} {S : St} {tv : Nat → Value} {cv gv : Value} (h : RS w g S tv cv gv) : RS w.drew g S tv cv gv := h.same (fun _ _ => rfl)
theorem Fr.drew {w w' : World} {F : Nat → Prop} (h : Fr w w' F) : Fr w w'.drew F := h

set_option maxHeartbeats 8000000 in
set_option maxRecDepth 100000 in
theorem rlay8_any {w : World} {g : Nat} {F : Nat → Prop} {S : St} (h0 : RB w g F S) (hB : Bd S 1000) (id : Int) {i : Nat} (ha : atS S id = some i) (P : PT) (hrt : rightT P = true) :
    Calls Tryz.prog 70 #[.pointer (some ⟨g, 0, none⟩), .int .i64 id, .agg (pl P).toArray] w fun e w' => e = .returned (.tuple #[]) ∧ Chg RB w w' g F (layS S id P) := by
  obtain ⟨tv, cv, gv, h, hF⟩ := h0
  have HH := Lib.hid h
  have HFF := Lib.hid hF
  have HB0 := Lib.hid hB
  have hg := h.row.lt
  obtain ⟨i32, hhi⟩ := at_some ha
  obtain ⟨row, hrow⟩ : ∃ row, row = findI (S.T i) id := ⟨_, rfl⟩
  have HRow := Lib.hid hrow
  have HAt : Hid (∀ u, Below w.heap.size w u → Calls Tryz.prog 78 #[.pointer (some ⟨g, 0, none⟩), .int .i64 id] u fun e w' => e = .returned (.tuple #[.int .i64 (i : Int), .int .i64 row]) ∧ u = w') := Lib.hid (fun u k => (rat_any (h.keep k) hB.2.2.1 id).mono fun _ _ q => ⟨by rw [q.1]; unfold atI atR; rw [ha, hrow], q.2⟩)
  have HLy : Hid (layS S id P = { S with T := layTs S.T i id P, ch := markL S.ch id S.now }) := Lib.hid (by unfold layS; rw [ha])
  obtain ⟨k32, kk, _, _⟩ := right_has hrt
  obtain ⟨k, hk⟩ : ∃ k, k = P.1.toNat := ⟨_, rfl⟩
  rw [← hk] at k32 kk
  have HK := Lib.hid hk
  have HKK := Lib.hid kk
  have HSz := Lib.hid (pl_size P)
  have HC : Hid (∀ u g, Blk u g 43 (pl P).toArray → u.cell? ⟨g, 0, none⟩ = some (.int .i64 (k : Int))) := Lib.hid (fun u g q => by rw [kk]; exact q.cell 0)
  have HAdd : Hid (∀ (u : World) (g o : Nat) (t : TypeId) (N : Nat) (f : Nat → Value) (s : Int) (v : Value) (R : TR) (id : Int), TV u g o t N f s v R → Calls Tryz.prog 111 #[.pointer (some ⟨g, o, none⟩), .int .i64 id, .agg (pl P).toArray] u fun e w' => (∃ z1 z2, e = .returned (.tuple #[.int .i64 z1, .int .i64 z2])) ∧ TU u w' g o t N f (tadR s R id P)) := Lib.hid (fun u g o t N f s v R id k => (radd_any k id P).mono fun _ _ q => ⟨⟨_, _, q.1⟩, q.2⟩)
  have HPut : Hid (∀ (u : World) (g o : Nat) (t : TypeId) (N : Nat) (f : Nat → Value) (s : Int) (v : Value) (R : TR) (row : Int), TV u g o t N f s v R → Calls Tryz.prog 110 #[.pointer (some ⟨g, o, none⟩), .int .i64 row, .agg (pl P).toArray] u fun e w' => (∃ z1, e = .returned (.int .i64 z1)) ∧ TU u w' g o t N f (tpuR s R row P)) := Lib.hid (fun u g o t N f s v R row k => (rput_any k row P).mono fun _ _ q => ⟨⟨_, q.1⟩, q.2⟩)
  obtain ⟨Xp, hXp⟩ : ∃ Xp, Xp = pl P := ⟨_, rfl⟩
  rw [← hXp] at HSz HC HAdd HPut ⊢
  have KP := Lib.hid (Blk.new w 43 Xp.toArray)
  have HB : Hid (Below w.heap.size w (w.alloc (.cells Xp.toArray 43))) := Lib.hid (alloc_below _ _)
  have c0 := HC.out _ _ KP.out
  have i0 : (0 : Int) ≤ (i : Int) := by omega
  have i1 : (i : Int) < 32 := by omega
  have k0 : (0 : Int) ≤ (k : Int) := by omega
  have k1 : (k : Int) < 32 := by omega
  have HFr : Hid (Fr w (w.alloc (.cells Xp.toArray 43)) F ∧ ∀ b, foot8 g tv cv gv b → F b ∨ w.heap.size ≤ b) := Lib.hid ⟨⟨HB.out.os, HB.out.tape, HB.out.output, HB.out.size, fun b hb _ => HB.out.block b hb⟩, fun b hb => Or.inl ((HFF.out b).2 hb)⟩
  clear hXp hrow hk kk h hF hB ha hhi hrt
  go_enter Tryz.func70, Tryz.ntmps70
  go_wp2_with fail
  refine (HAt.out _ HB.out).mono ?_
  rintro e w1 ⟨rfl, rfl⟩
  have HMark : Hid (∀ (T' : Nat → TR) (tv' : Nat → Value) (u : World), T' = layTs S.T i id P → RS u g { S with T := T' } tv' cv gv → Fr w u F → (∀ b, foot8 g tv' cv gv b → F b ∨ w.heap.size ≤ b) → Calls Tryz.prog 107 #[.pointer (some ⟨g, 0, none⟩), .int .i64 id] u fun e w' => e = .returned (.tuple #[]) ∧ Chg RB w w' g F (layS S id P)) := Lib.hid (fun T' tv' u hT hr hf hn => by
    have h4 := rmark_any (w := u) (g := g) (F := foot8 g tv' cv gv) ⟨tv', cv, gv, hr, fun _ => Iff.rfl⟩ HB0.out.1 id
    refine h4.mono fun e w' k4 => ⟨k4.1, ?_⟩
    have h5 := Chg.trans hf hn k4.2
    rw [HLy.out, ← hT]
    exact h5)
  by_cases hik : i = k
  · subst hik
    have HT : Hid (layTs S.T i id P = upf S.T i (tpuR i (S.T i) row P)) := Lib.hid (by unfold layTs; rw [← HK.out, if_pos rfl, HRow.out])
    have HPu : Hid (Calls Tryz.prog 110 #[.pointer (some ⟨g, 513 + i * 2, none⟩), .int .i64 row, .agg Xp.toArray] (w.alloc (.cells Xp.toArray 43)).drew fun e w' => (∃ z1, e = .returned (.int .i64 z1)) ∧ TU (w.alloc (.cells Xp.toArray 43)).drew w' g (513 + i * 2) 96 580 (sF S tv cv gv) (tpuR i (S.T i) row P)) := Lib.hid (HPut.out _ _ _ _ _ _ _ _ _ _ ((HH.out.keep HB.out).drew.view i32 (HB0.out.2.2.1 i i32)))
    clear HAdd HPut
    go_upto_region 3 with fail
    refine wp_region_held_drew (S := fun w' => w'.rangeAt w.heap.size 0 Xp) (by kernel_rfl) (blk_whole (Blk.drew KP.out)) (fun hHeld => ?_)
    refine tk 0 hHeld ?_
    refine tk 1 hHeld ?_
    refine tk 2 hHeld ?_
    refine tk 3 hHeld ?_
    refine tk 4 hHeld ?_
    refine tk 5 hHeld ?_
    refine tkl 6 rfl (yieldsIf_load_mid (by rfl) _ _ rfl _ _ rfl _ _ (fun _ h => h) Tryz.underlying43 rfl HSz.out) hHeld ?_
    refine rd 7 (fun K hK => ?_)
    go_simp
    go_at_call 110
    refine (HPu.out).mono ?_
    rintro e w3 ⟨⟨z1, rfl⟩, tu⟩
    have KN := Lib.hid (gblk8 tu.grown (Blk.drew KP.out) (by omega))
    obtain ⟨tv3, rs3, fr3, new3⟩ := (HH.out.keep HB.out).drew.next HFr.out.1.drew HFr.out.2 i32 tu
    have HR3 := Lib.hid rs3
    have HF3 := Lib.hid (And.intro fr3 new3)
    clear tu rs3 fr3 new3
    go_wp2_with fail
    refine hK.out _ _ (blk_whole KN.out) (fun hHeld => ?_)
    clear hK K
    refine wpAnyH_done (by kernel_rfl) ?_ _
    clear hHeld KN HPu c0
    have hg3 : g < w3.heap.size := HR3.out.row.lt
    go_wp2_with fail
    refine (HMark.out _ tv3 w3 HT.out.symm HR3.out HF3.out.1 HF3.out.2).mono ?_
    rintro e w4 ⟨rfl, ch⟩
    have HCh := Lib.hid ch
    clear ch HMark HR3 HF3
    go_wp2
    go_end0
    exact ⟨rfl, HCh.out⟩
  · have hik' : ((i : Int) == (k : Int)) = false := by rw [beq_eq_false_iff_ne]; omega
    have HT : Hid (layTs S.T i id P = upf (upf S.T i (tcuR (S.T i) row)) k (tadR k (upf S.T i (tcuR (S.T i) row) k) id P)) := Lib.hid (by unfold layTs; rw [← HK.out, if_neg hik, ← HRow.out, ← HKK.out])
    have HCu : Hid (Calls Tryz.prog 104 #[.pointer (some ⟨g, 513 + i * 2, none⟩), .int .i64 row] (w.alloc (.cells Xp.toArray 43)) fun e w' => (∃ z1 z2, e = .returned (.tuple #[.int .i64 z1, .int .i64 z2])) ∧ TU (w.alloc (.cells Xp.toArray 43)) w' g (513 + i * 2) 96 580 (sF S tv cv gv) (tcuR (S.T i) row)) := Lib.hid ((rcut_any ((HH.out.keep HB.out).view i32 (HB0.out.2.2.1 i i32)) row).mono fun _ _ q => ⟨⟨_, _, q.1⟩, q.2⟩)
    have HL1 : Hid ((upf S.T i (tcuR (S.T i) row) k).length ≤ 1000) := Lib.hid (by unfold upf; rw [if_neg (fun e => hik e.symm)]; exact HB0.out.2.2.1 k k32)
    clear HPut
    go_wp2_with fail
    refine HCu.out.mono ?_
    rintro e w2 ⟨⟨z1, z2, rfl⟩, tu⟩
    replace KP := Lib.hid (gblk8 tu.grown KP.out (by omega))
    obtain ⟨tv2, rs2, fr2, new2⟩ := (HH.out.keep HB.out).next HFr.out.1 HFr.out.2 i32 tu
    have HR2 := Lib.hid rs2
    have HF2 := Lib.hid (And.intro fr2 new2)
    have hg2 : g < w2.heap.size := rs2.row.lt
    clear tu rs2 fr2 new2 HCu c0
    have HAd : Hid (Calls Tryz.prog 111 #[.pointer (some ⟨g, 513 + k * 2, none⟩), .int .i64 id, .agg Xp.toArray] w2.drew fun e w' => (∃ z1 z2, e = .returned (.tuple #[.int .i64 z1, .int .i64 z2])) ∧ TU w2.drew w' g (513 + k * 2) 96 580 (sF { S with T := upf S.T i (tcuR (S.T i) row) } tv2 cv gv) (tadR k (upf S.T i (tcuR (S.T i) row) k) id P)) := Lib.hid (HAdd.out _ _ _ _ _ _ _ _ _ _ (HR2.out.drew.view k32 HL1.out))
    clear HAdd
    go_upto_region 5 with fail
    refine wp_region_held_drew (S := fun w' => w'.cell? ⟨w.heap.size, 0, none⟩ = some (.int .i64 k) ∧ w'.rangeAt w.heap.size 0 Xp) (by kernel_rfl) (⟨HC.out _ _ (Blk.drew KP.out), blk_whole (Blk.drew KP.out)⟩) (fun hHeld => ?_)
    refine tk 0 hHeld ?_
    refine tk 1 hHeld ?_
    refine tk 2 hHeld ?_
    refine tk 3 hHeld ?_
    refine tk 4 hHeld ?_
    refine tk 5 hHeld ?_
    refine tk 6 hHeld ?_
    refine tkl 7 rfl (yieldsIf_load_mid (by rfl) _ _ rfl _ _ rfl _ _ (fun _ h => h.2) Tryz.underlying43 rfl HSz.out) hHeld ?_
    refine rd 8 (fun K hK => ?_)
    go_simp
    go_at_call 111
    refine (HAd.out).mono ?_
    rintro e w3 ⟨⟨z3, z4, rfl⟩, tu⟩
    have KN := Lib.hid (gblk8 tu.grown (Blk.drew KP.out) (by omega))
    obtain ⟨tv3, rs3, fr3, new3⟩ := HR2.out.drew.next HF2.out.1.drew HF2.out.2 k32 tu
    have HR3 := Lib.hid rs3
    have HF3 := Lib.hid (And.intro fr3 new3)
    clear tu rs3 fr3 new3
    go_wp2_with fail
    refine hK.out _ _ (⟨HC.out _ _ KN.out, blk_whole KN.out⟩) (fun hHeld => ?_)
    clear hK K
    refine wpAnyH_done (by kernel_rfl) ?_ _
    clear hHeld KN HAd
    have hg3 : g < w3.heap.size := HR3.out.row.lt
    go_wp2_with fail
    refine (HMark.out _ tv3 w3 HT.out.symm HR3.out HF3.out.1 HF3.out.2).mono ?_
    rintro e w4 ⟨rfl, ch⟩
    have HCh := Lib.hid ch
    clear ch HMark HR3 HF3
    go_wp2
    go_end0
    exact ⟨rfl, HCh.out⟩

end Go.Proofs.YtkondkajpmafkaaGreat
