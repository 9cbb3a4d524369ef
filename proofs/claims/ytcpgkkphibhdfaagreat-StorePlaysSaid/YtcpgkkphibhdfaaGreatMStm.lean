/-
  2 texts in one file, each with its own heading.
-/
import Derived.Test.YtcpgkkphibhdfaaGreatMStj
/-
  The reference's store in memory: 580 cells, its tables' rows, its marks; what its at and Get of layer 8 answer.
-/
namespace Go.Proofs.YtcpgkkphibhdfaaGreat
open Go.RowKit

/-- a mark, as a row -/
def mk8 (m : Int × Int) : Int × PT := (m.1, m.2, zI, 0, zI, 0, 0, false, 0)
def cM (x : Int × PT) : List Value := [.int .i64 x.1, .int .i64 x.2.1]
abbrev ColM (w : World) (v : Value) (l : List (Int × Int)) : Prop := ColX w 125 2 cM v (l.map mk8)
/-- what lies behind the pool -/
def stE (tv : Nat → Value) (now : Int) (cv gv : Value) (j : Nat) : Value := if j < 577 then (if j % 2 = 1 then .int .i64 (((j - 513) / 2 : Nat) : Int) else tv ((j - 514) / 2)) else if j = 577 then .int .i64 now else if j = 578 then cv else gv
def sF (S : St) (tv : Nat → Value) (cv gv : Value) : Nat → Value := poolX (stE tv S.now cv gv) S.room S.G S.L
section
variable {S : St} {tv : Nat → Value} {cv gv : Value} {i : Nat}
theorem sF_set (hi : i < 32) : sF S tv cv gv (513 + i * 2) = .int .i64 i := by
  unfold sF poolX stE
  rw [if_neg (by omega), if_pos (by omega), if_pos (by omega), show (513 + i * 2 - 513) / 2 = i by omega]
theorem sF_tab (hi : i < 32) : sF S tv cv gv (513 + i * 2 + 1) = tv i := by
  unfold sF poolX stE
  rw [if_neg (by omega), if_pos (by omega), if_neg (by omega), show (513 + i * 2 + 1 - 514) / 2 = i by omega]
theorem sF_now : sF S tv cv gv 577 = .int .i64 S.now := rfl
theorem sF_ch : sF S tv cv gv 578 = cv := rfl
theorem sF_go : sF S tv cv gv 579 = gv := rfl
theorem upv_tab {T' : Nat → TR} (hi : i < 32) (v : Value) (j : Nat) : upv (sF S tv cv gv) (513 + i * 2 + 1) v j = sF { S with T := T' } (upf tv i v) cv gv j := by
  unfold upv sF poolX stE upf
  by_cases c : j = 513 + i * 2 + 1
  · rw [if_pos c, if_neg (by omega), if_pos (by omega), if_neg (by omega), if_pos (by omega)]
  · rw [if_neg c]
    by_cases d : j < 513
    · rw [if_pos d, if_pos d]
    · rw [if_neg d, if_neg d]
      by_cases e : j < 577
      · rw [if_pos e, if_pos e]
        by_cases q : j % 2 = 1
        · rw [if_pos q, if_pos q]
        · rw [if_neg q, if_neg q, if_neg (by omega)]
      · rw [if_neg e, if_neg e]
theorem upv_ch {c' : List (Int × Int)} (v : Value) (j : Nat) : upv (sF S tv cv gv) 578 v j = sF { S with ch := c' } tv v gv j := by
  unfold upv sF poolX stE
  by_cases c : j = 578
  · rw [if_pos c, if_neg (by omega), if_neg (by omega), if_neg (by omega), if_pos c]
  · rw [if_neg c]
    by_cases d : j < 513
    · rw [if_pos d, if_pos d]
    · rw [if_neg d, if_neg d, if_neg c, if_neg c]
theorem upv_go {c' : List (Int × Int)} (v : Value) (j : Nat) (hj : j < 580) : upv (sF S tv cv gv) 579 v j = sF { S with go := c' } tv cv v j := by
  unfold upv sF poolX stE
  by_cases c : j = 579
  · rw [if_pos c, if_neg (by omega), if_neg (by omega), if_neg (by omega), if_neg (by omega)]
  · rw [if_neg c]
    by_cases d : j < 513
    · rw [if_pos d, if_pos d]
    · rw [if_neg d, if_neg d]
      by_cases e : j < 577
      · rw [if_pos e, if_pos e]
      · rw [if_neg e, if_neg e]
        by_cases q : j = 577
        · rw [if_pos q, if_pos q]
        · rw [if_neg q, if_neg q, if_pos (by omega), if_pos (by omega)]
end
/-- the reference's store in memory -/
structure RS (w : World) (g : Nat) (S : St) (tv : Nat → Value) (cv gv : Value) : Prop where
  row : w.rowIs g 89 580 (sF S tv cv gv)
  tab : ∀ i, i < 32 → ColR w (tv i) (S.T i)
  chs : ColM w cv S.ch
  gos : ColM w gv S.go
  offT : ∀ i, i < 32 → (tv i).ownBlock ≠ some g
  offC : cv.ownBlock ≠ some g
  offG : gv.ownBlock ≠ some g
  sepT : ∀ i, i < 32 → ∀ b, gv.ownBlock = some b → (tv i).ownBlock ≠ some b
  sepC : ∀ b, gv.ownBlock = some b → cv.ownBlock ≠ some b
def foot8 (g : Nat) (tv : Nat → Value) (cv gv : Value) (b : Nat) : Prop := b = g ∨ (∃ i, i < 32 ∧ (tv i).ownBlock = some b) ∨ cv.ownBlock = some b ∨ gv.ownBlock = some b
def RB (w : World) (g : Nat) (F : Nat → Prop) (S : St) : Prop := ∃ tv cv gv, RS w g S tv cv gv ∧ ∀ b, F b ↔ foot8 g tv cv gv b
section
variable {w w' : World} {g : Nat} {S S' : St} {tv tv' : Nat → Value} {cv cv' gv : Value}
theorem RS.inb (h : RS w g S tv cv gv) : ∀ b, foot8 g tv cv gv b → b < w.heap.size := by
  rintro b (rfl | ⟨i, hi, e⟩ | e | e)
  · exact h.row.lt
  · exact (World.ownsRow.lt (h.tab i hi) b e).2
  · exact (World.ownsRow.lt h.chs b e).2
  · exact (World.ownsRow.lt h.gos b e).2
theorem RS.same (h : RS w g S tv cv gv) (he : ∀ b, foot8 g tv cv gv b → w'.heap[b]? = w.heap[b]?) : RS w' g S tv cv gv :=
  ⟨h.row.of_block (he g (Or.inl rfl)), fun i hi => (h.tab i hi).same (fun b e => he b (Or.inr (Or.inl ⟨i, hi, e⟩))), ColX.same h.chs (fun b e => he b (Or.inr (Or.inr (Or.inl e)))), ColX.same h.gos (fun b e => he b (Or.inr (Or.inr (Or.inr e)))), h.offT, h.offC, h.offG, h.sepT, h.sepC⟩
theorem RS.keep (h : RS w g S tv cv gv) (hb : Below w.heap.size w w') : RS w' g S tv cv gv := h.same (fun b hf => hb.block b (h.inb b hf))
theorem RS.view (h : RS w g S tv cv gv) {i : Nat} (hi : i < 32) (hl : (S.T i).length ≤ 1000) : TV w g (513 + i * 2) 89 580 (sF S tv cv gv) i (tv i) (S.T i) :=
  ⟨h.row, by omega, sF_set hi, sF_tab hi, h.tab i hi, h.offT i hi, hl⟩
/-- only the store's own block, and new memory -/
theorem RS.move (h : RS w g S tv cv gv) (hg : w.grownBy w' (some g)) (row : w'.rowIs g 89 580 (sF S' tv' cv' gv)) (tab : ∀ i, i < 32 → ColR w' (tv' i) (S'.T i) ∧ ∀ b, (tv' i).ownBlock = some b → tv i = tv' i ∨ w.heap.size ≤ b)
    (chs : ColM w' cv' S'.ch ∧ ∀ b, cv'.ownBlock = some b → cv = cv' ∨ w.heap.size ≤ b) (hgo : S'.go = S.go) : RS w' g S' tv' cv' gv ∧ Fr w w' (foot8 g tv cv gv) ∧ ∀ b, foot8 g tv' cv' gv b → foot8 g tv cv gv b ∨ w.heap.size ≤ b := by
  have hgl := h.row.lt
  have hgv : ∀ b, gv.ownBlock = some b → b < w.heap.size := fun b e => (World.ownsRow.lt h.gos b e).2
  refine ⟨⟨row, fun i hi => (tab i hi).1, chs.1, ?_, fun i hi e => ?_, fun e => ?_, h.offG, fun i hi b e c => ?_, fun b e c => ?_⟩, ⟨hg.os, hg.tape, hg.output, hg.size, fun b hb hn => hg.block b hb (fun e => hn (Or.inl (by injection e)))⟩, ?_⟩
  · rw [hgo]
    exact ColX.same h.gos (fun b e => hg.block b (hgv b e) (fun c => h.offG (by rw [e]; exact c)))
  · rcases (tab i hi).2 g e with c | c
    · exact h.offT i hi (c ▸ e)
    · omega
  · rcases chs.2 g e with c | c
    · exact h.offC (c ▸ e)
    · omega
  · rcases (tab i hi).2 b c with d | d
    · exact h.sepT i hi b e (d ▸ c)
    · have := hgv b e; omega
  · rcases chs.2 b c with d | d
    · exact h.sepC b e (d ▸ c)
    · have := hgv b e; omega
  · rintro b (rfl | ⟨i, hi, e⟩ | e | e)
    · exact Or.inl (Or.inl rfl)
    · rcases (tab i hi).2 b e with c | c
      · exact Or.inl (Or.inr (Or.inl ⟨i, hi, c ▸ e⟩))
      · exact Or.inr c
    · rcases chs.2 b e with c | c
      · exact Or.inl (Or.inr (Or.inr (Or.inl (c ▸ e))))
      · exact Or.inr c
    · exact Or.inl (Or.inr (Or.inr (Or.inr e)))
theorem RS.colT (h : RS w g S tv cv gv) (hg : w.grownBy w' (some g)) {i : Nat} (hi : i < 32) : ColR w' (tv i) (S.T i) := (h.tab i hi).same (fun b e => hg.block b (World.ownsRow.lt (h.tab i hi) b e).2 (fun c => h.offT i hi (by rw [e]; exact c)))
theorem RS.colC (h : RS w g S tv cv gv) (hg : w.grownBy w' (some g)) : ColM w' cv S.ch := ColX.same h.chs (fun b e => hg.block b (World.ownsRow.lt h.chs b e).2 (fun c => h.offC (by rw [e]; exact c)))
/-- a table's rows are others -/
theorem RS.table (h : RS w g S tv cv gv) {i : Nat} (hi : i < 32) {R : TR} (hu : TU w w' g (513 + i * 2) 89 580 (sF S tv cv gv) R) : ∃ tv', RS w' g { S with T := upf S.T i R } tv' cv gv ∧ Fr w w' (foot8 g tv cv gv) ∧ ∀ b, foot8 g tv' cv gv b → foot8 g tv cv gv b ∨ w.heap.size ≤ b := by
  obtain ⟨v, hr, hc, hv, hg⟩ := hu
  refine ⟨upf tv i v, h.move hg (hr.congr (fun j _ => upv_tab hi v j)) (fun j hj => ?_) ⟨h.colC hg, fun b _ => Or.inl rfl⟩ rfl⟩
  show ColR w' (upf tv i v j) (upf S.T i R j) ∧ _
  unfold upf
  by_cases c : j = i
  · rw [if_pos c, if_pos c]
    refine ⟨hc, fun b e => ?_⟩
    rw [sF_tab hi] at hv
    rcases (hv b e).2 with d | d
    · exact Or.inl (by rw [c]; exact d)
    · exact Or.inr d
  · rw [if_neg c, if_neg c]
    exact ⟨h.colT hg hj, fun b _ => Or.inl rfl⟩
end

theorem at_none8 {S : St} {id : Int} (h : ∀ j, j < 32 → hasId (S.T j) id = false) : atS S id = none := by
  unfold atS
  rw [List.find?_eq_none]
  intro j hj
  rw [h j (List.mem_range.1 hj)]
  simp
theorem at_some8 {S : St} {id : Int} {k : Nat} (hk : k < 32) (h : ∀ j, j < k → hasId (S.T j) id = false) (hh : hasId (S.T k) id = true) : atS S id = some k := by
  unfold atS
  rw [List.find?_range_eq_some]
  exact ⟨hh, List.mem_range.2 hk, fun j hj => by rw [h j hj]; rfl⟩
/-- what at answers -/
def atI (S : St) (id : Int) : Int := match atS S id with | some i => (i : Int) | none => -1
def atR (S : St) (id : Int) : Int := match atS S id with | some i => findI (S.T i) id | none => -1
set_option maxHeartbeats 2000000 in
set_option maxRecDepth 100000 in
theorem rat_any {w : World} {g : Nat} {S : St} {tv : Nat → Value} {cv gv : Value} (h : RS w g S tv cv gv) (hl : ∀ i, i < 32 → (S.T i).length ≤ 1000) (id : Int) :
    Calls Tryz.prog 57 #[.pointer (some ⟨g, 0, none⟩), .int .i64 id] w fun e w' => e = .returned (.tuple #[.int .i64 (atI S id), .int .i64 (atR S id)]) ∧ w = w' := by
  have HF : Hid (∀ i, i < 32 → Calls Tryz.prog 92 #[.pointer (some ⟨g, 513 + i * 2, none⟩), .int .i64 id] w fun e w' => e = .returned (.int .i64 (findI (S.T i) id)) ∧ w = w') := Lib.hid (fun i hi => rfind_any (h.view hi (hl i hi)) id)
  have hg := h.row.lt
  clear h hl
  go_enter Tryz.func57, Tryz.ntmps57
  go_wp2
  go_loopw [6, 7] (fun i _ wr => ∃ k : Nat, k ≤ 32 ∧ i = .int .i64 k ∧ (∀ j, j < k → hasId (S.T j) id = false) ∧ wr = w) (fun i _ _ => 32 - (intOf i).toNat)
  case atStart => exact ⟨0, by omega, rfl, fun j hj => by omega, rfl⟩
  case round =>
    obtain ⟨k, hk, rfl, hz, rfl⟩ := hrel
    have HZ := Lib.hid hz
    clear hz
    by_cases hlt : k < 32
    · have k0 : (0 : Int) ≤ (k : Int) := by omega
      have k1 : (k : Int) < 32 := by omega
      have HK : Hid (Calls Tryz.prog 92 #[.pointer (some ⟨g, 513 + k * 2, none⟩), .int .i64 id] wr fun e w' => e = .returned (.int .i64 (findI (S.T k) id)) ∧ wr = w') := Lib.hid (HF.out k hlt)
      by_cases hh : hasId (S.T k) id = true
      · have q0 : 0 ≤ findI (S.T k) id := has_find7 hh
        have HA := Lib.hid (at_some8 hlt HZ.out hh)
        obtain ⟨q, hq⟩ : ∃ q, q = findI (S.T k) id := ⟨_, rfl⟩
        have HQ := Lib.hid hq
        rw [← hq] at HK q0
        clear hh hq
        go_wp2_with fail
        refine HK.out.mono ?_
        rintro e w1 ⟨rfl, rfl⟩
        go_wp2
        go_ret2
        have e1 : atI S id = (k : Int) := by unfold atI; rw [HA.out]
        have e2 : atR S id = q := by unfold atR; rw [HA.out, HQ.out]
        exact ⟨by rw [e1, e2]; rfl, rfl⟩
      · have hh' : hasId (S.T k) id = false := by simpa using hh
        have HH := Lib.hid hh'
        rw [hasnt_find7 hh'] at HK
        clear hh hh'
        go_wp2_with fail
        refine HK.out.mono ?_
        rintro e w1 ⟨rfl, rfl⟩
        go_wp2
        go_roundw
        case rel => exact ⟨k + 1, by omega, by go_num, fun j hj => by
          rcases Nat.lt_succ_iff_lt_or_eq.1 hj with c | c
          · exact HZ.out j c
          · rw [c]; exact HH.out, by trivial⟩
        case measure => simp [intOf] <;> omega
    · obtain rfl : k = 32 := by omega
      have HA := Lib.hid (at_none8 HZ.out)
      go_wp2
      go_ret2
      have e1 : atI S id = -1 := by unfold atI; rw [HA.out]
      have e2 : atR S id = -1 := by unfold atR; rw [HA.out]
      exact ⟨by rw [e1, e2]; rfl, rfl⟩

end Go.Proofs.YtcpgkkphibhdfaaGreat
/-
  The reference's store: what its Get and mark of layer 8 answer.
-/
namespace Go.Proofs.YtcpgkkphibhdfaaGreat
open Go.RowKit

theorem Chg.rs {w w' : World} {g : Nat} {F : Nat → Prop} {S' : St} {tv tv' : Nat → Value} {cv cv' gv gv' : Value} (hF : ∀ b, F b ↔ foot8 g tv cv gv b) (h : RS w' g S' tv' cv' gv' ∧ Fr w w' (foot8 g tv cv gv) ∧ ∀ b, foot8 g tv' cv' gv' b → foot8 g tv cv gv b ∨ w.heap.size ≤ b) : Chg RB w w' g F S' :=
  ⟨foot8 g tv' cv' gv', ⟨tv', cv', gv', h.1, fun _ => Iff.rfl⟩, ⟨h.2.1.1, h.2.1.2.1, h.2.1.2.2.1, h.2.1.2.2.2.1, fun b hb hn => h.2.1.2.2.2.2 b hb (fun c => hn ((hF b).2 c))⟩, fun b hb => (h.2.2 b hb).imp_left (hF b).2⟩
theorem Chg.trans {SB : World → Nat → (Nat → Prop) → St → Prop} {w w1 w2 : World} {g : Nat} {F F1 : Nat → Prop} {S2 : St} (h1 : Fr w w1 F) (h2 : ∀ b, F1 b → F b ∨ w.heap.size ≤ b) (h : Chg SB w1 w2 g F1 S2) : Chg SB w w2 g F S2 := by
  obtain ⟨F2, hs, hf, hn⟩ := h
  refine ⟨F2, hs, ⟨hf.1.trans h1.1, hf.2.1.trans h1.2.1, hf.2.2.1.trans h1.2.2.1, Nat.le_trans h1.2.2.2.1 hf.2.2.2.1, fun b hb hnf => (hf.2.2.2.2 b (Nat.lt_of_lt_of_le hb h1.2.2.2.1) (fun c => ?_)).trans (h1.2.2.2.2 b hb hnf)⟩, fun b hb => ?_⟩
  · rcases h2 b c with d | d
    · exact hnf d
    · omega
  · rcases hn b hb with d | d
    · exact h2 b d
    · exact Or.inr (Nat.le_trans h1.2.2.2.1 d)
theorem Chg.still {w w' : World} {g : Nat} {F : Nat → Prop} {S : St} (h : RB w g F S) (hb : Below w.heap.size w w') : Chg RB w w' g F S := by
  obtain ⟨tv, cv, gv, h1, hF⟩ := h
  exact ⟨F, ⟨tv, cv, gv, h1.keep hb, hF⟩, ⟨hb.os, hb.tape, hb.output, hb.size, fun b hl _ => hb.block b hl⟩, fun b h => Or.inl h⟩
theorem RB.keep {w w' : World} {g : Nat} {F : Nat → Prop} {S : St} (h : RB w g F S) (hb : Below w.heap.size w w') : RB w' g F S := by
  obtain ⟨tv, cv, gv, h1, hF⟩ := h
  exact ⟨tv, cv, gv, h1.keep hb, hF⟩

theorem b8zero (W : World) : (Instr.build 44 #[]).run Tryz.prog W = .ok (.agg (pl zT).toArray) W := by kernel_rfl
theorem wpList_bldz {ops : Array Oper} {rest : List Oper} {op : Oper} {a : Go.Act} {w : World} {Q : Exit → Go.Act → World → Prop} (hgd : op.guard = none) (t : TypeId) (ho : op.op = .build t #[]) (vr : Value)
    (hrun : ∀ W, (Instr.build t #[]).run Tryz.prog W = .ok vr W)
    (h : wpList Tryz.prog ops Q rest (a.put op.dst vr) w) : wpList Tryz.prog ops Q (op :: rest) a w :=
  wpList_plain hgd fun K hK => by
    have h2 := hK _ _ h
    unfold Oper.wp execOp
    simp only [ho]
    simp [hrun]
    exact h2
set_option maxHeartbeats 4000000 in
set_option maxRecDepth 100000 in
theorem rget_any {w : World} {g : Nat} {S : St} {tv : Nat → Value} {cv gv : Value} (h : RS w g S tv cv gv) (hW : WS S) (hl : ∀ i, i < 32 → (S.T i).length ≤ 1000) (id : Int) :
    Calls Tryz.prog 37 #[.pointer (some ⟨g, 0, none⟩), .int .i64 id] w fun e w' => ∃ Y, e = .returned (.tuple #[.agg (List.toArray Y), .bool (getB S id)]) ∧ Y = pl (getP S id) ∧ Below w.heap.size w w' := by
  have HA : Hid (∀ u, Below w.heap.size w u → Calls Tryz.prog 57 #[.pointer (some ⟨g, 0, none⟩), .int .i64 id] u fun e w' => e = .returned (.tuple #[.int .i64 (atI S id), .int .i64 (atR S id)]) ∧ u = w') := Lib.hid (fun u k => rat_any (h.keep k) hl id)
  have HSz := Lib.hid (pl_size (getP S id))
  have HSz' := Lib.hid (pl_size' (getP S id))
  have HO := Lib.hid (pl_one (getP S id))
  have HL : Hid ((pl (getP S id)).length = Z24.length) := Lib.hid rfl
  have hg := h.row.lt
  have K4 := Lib.hid (Blk.new w 44 Z24.toArray)
  have HB4 : Hid (Below w.heap.size w (w.alloc (.cells Z24.toArray 44))) := Lib.hid (alloc_below _ _)
  cases ha : atS S id with
  | none =>
    have e1 : atI S id = -1 := by unfold atI; rw [ha]
    have e2 : atR S id = -1 := by unfold atR; rw [ha]
    have e3 : getB S id = false := by unfold getB; rw [ha]; rfl
    have e4 : getP S id = zT := by unfold getP; rw [ha]
    rw [e1, e2] at HA
    rw [e3]
    have HBd : Hid (∀ W, (Instr.build 44 #[]).run Tryz.prog W = .ok (.agg (pl (getP S id)).toArray) W) := Lib.hid (by rw [e4]; exact b8zero)
    obtain ⟨Xp, hXp⟩ : ∃ Xp, Xp = pl (getP S id) := ⟨_, rfl⟩
    rw [← hXp] at HSz HSz' HO HL HBd ⊢
    have HT4 : Hid ((w.alloc (.cells Z24.toArray 44)).there w.heap.size 0 Xp.toArray.size) := Lib.hid (blk_there K4.out (by rw [List.size_toArray, HL.out]; omega))
    have L4 : Hid (Blk ((w.alloc (.cells Z24.toArray 44)).setCells w.heap.size 0 Xp) w.heap.size 44 Xp.toArray) := Lib.hid (blk_over K4.out HL.out)
    clear hXp e1 e2 e3 e4 ha h hW hl
    go_enter Tryz.func37, Tryz.ntmps37
    go_wp2_with fail
    refine (HA.out _ HB4.out).mono ?_
    rintro e w1 ⟨rfl, rfl⟩
    go_wp2_with (first | refine wpList_bldz rfl 44 rfl (.agg Xp.toArray) HBd.out ?_ | refine wpList_store_mid rfl 44 (.tmp 4) (.tmp 16) rfl w.heap.size 0 Xp.toArray rfl rfl HT4.out HSz'.out HO.out ?_)
    refine fin (fun W => Blk W w.heap.size 44 Xp.toArray ∧ Below w.heap.size w W) ⟨L4.out, below_setCells _ (alloc_below _ _) (Nat.le_refl _)⟩ ?_
    rintro W ⟨kr, hb⟩
    have hl := run_loadVar_mid W w.heap.size 0 44 Xp _ (blk_whole kr) Tryz.underlying44 rfl HSz.out
    try simp only [Go.Act.put, List.setIfInBounds_toArray, List.set_cons_zero, List.set_cons_succ]
    exact bodyPost_ret (v := .tuple #[.agg Xp.toArray, .bool false]) (results_cell2 Tryz.results37 rfl rfl hl) rfl ⟨Xp, rfl, rfl, hb⟩
  | some i =>
    obtain ⟨hi, hh⟩ := at_some ha
    obtain ⟨r, hrl, hfr, hrid, hin⟩ := find_row (hW.nod i hi) hh
    have e1 : atI S id = (i : Int) := by unfold atI; rw [ha]
    have e2 : atR S id = (r : Int) := by unfold atR; rw [ha]; exact hfr
    have e3 : getB S id = true := by unfold getB; rw [ha]; rfl
    have e4 : getP S id = ((S.T i).getD r d0).2 := by unfold getP; rw [ha]; simp only; rw [hfr]; rfl
    rw [e1, e2] at HA
    rw [e3]
    have hlen := hl i hi
    obtain ⟨b, cap, cur, hv, hbk, hcap, hmax, _, _⟩ := (h.tab i hi).open_ (by omega)
    have hcol := h.tab i hi
    rw [hv] at hcol
    have hrng : w.rangeAt b (r * 25 + 1) (pl (getP S id)) := by
      have h2 := ColX.range (c := rcells) (k := 25) (fun _ => rfl) hcol (getD_at hrl)
      rw [e4]
      intro j u hu
      have := h2 (j + 1) u (by simpa [rcells] using hu)
      rwa [show r * 25 + 1 + j = r * 25 + (j + 1) by omega]
    have cc : w.cell? ⟨g, 513 + i * 2 + 1, none⟩ = some (.slice (some ⟨b, 0, none⟩) (S.T i).length cap) := by rw [h.row.cell (by omega), sF_tab hi, hv]
    obtain ⟨Xp, hXp⟩ : ∃ Xp, Xp = pl (getP S id) := ⟨_, rfl⟩
    rw [← hXp] at HSz HSz' HO HL hrng ⊢
    obtain ⟨n, hn⟩ : ∃ n, n = (S.T i).length := ⟨_, rfl⟩
    rw [← hn] at cc hrl hcap
    have HR : Hid ((w.alloc (.cells Z24.toArray 44)).rangeAt b (r * 25 + 1) Xp) := Lib.hid (range_same hrng (HB4.out.block b hbk.lt))
    have cc' : (w.alloc (.cells Z24.toArray 44)).cell? ⟨g, 513 + i * 2 + 1, none⟩ = some (.slice (some ⟨b, 0, none⟩) n cap) := cell_keep cc HB4.out
    have HT4 : Hid ((w.alloc (.cells Z24.toArray 44)).there w.heap.size 0 Xp.toArray.size) := Lib.hid (blk_there K4.out (by rw [List.size_toArray, HL.out]; omega))
    have L4 : Hid (Blk ((w.alloc (.cells Z24.toArray 44)).setCells w.heap.size 0 Xp) w.heap.size 44 Xp.toArray) := Lib.hid (blk_over K4.out HL.out)
    have hbl := hbk.lt
    have i0 : (0 : Int) ≤ (i : Int) := by omega
    have i1 : (i : Int) < 32 := by omega
    have r0 : (0 : Int) ≤ (r : Int) := by omega
    have r1 : (r : Int) < (n : Int) := by omega
    unfold maxLen at hmax
    clear hXp e1 e2 e3 e4 ha h hW hl hn hrng cc hbk hcol hv hin hrid hfr hh
    go_enter Tryz.func37, Tryz.ntmps37
    go_wp2_with fail
    refine (HA.out _ HB4.out).mono ?_
    rintro e w1 ⟨rfl, rfl⟩
    go_wp2_with (first | refine wpList_load_mid rfl 44 (.tmp 26) rfl b (r * 25 + 1) rfl Xp _ HR.out Tryz.underlying44 rfl HSz.out ?_ | refine wpList_store_mid rfl 44 (.tmp 4) (.tmp 27) rfl w.heap.size 0 Xp.toArray rfl rfl HT4.out HSz'.out HO.out ?_)
    refine fin (fun W => Blk W w.heap.size 44 Xp.toArray ∧ Below w.heap.size w W) ⟨L4.out, below_setCells _ (alloc_below _ _) (Nat.le_refl _)⟩ ?_
    rintro W ⟨kr, hb⟩
    have hl := run_loadVar_mid W w.heap.size 0 44 Xp _ (blk_whole kr) Tryz.underlying44 rfl HSz.out
    try simp only [Go.Act.put, List.setIfInBounds_toArray, List.set_cons_zero, List.set_cons_succ]
    exact bodyPost_ret (v := .tuple #[.agg Xp.toArray, .bool true]) (results_cell2 Tryz.results37 rfl rfl hl) rfl ⟨Xp, rfl, rfl, hb⟩

theorem minfo : (Tryz.prog.info? 125).map (fun i => (i.zero, i.size, i.bytes)) = some (some (.agg #[.int .i64 0, .int .i64 0]), 2, 16) := by kernel_rfl
theorem mone (x y : Int) : ∀ u ∈ ([.int .i64 x, .int .i64 y] : List Value), u.oneCell' = true := fun u hu => by
  simp only [List.mem_cons, List.not_mem_nil, or_false] at hu
  rcases hu with rfl | rfl <;> rfl
def keepM (l : List (Int × Int)) (id : Int) : List (Int × Int) := l.filter fun x => x.1 != id
theorem keepM_yes {l : List (Int × Int)} {k : Nat} {m : Int × Int} {id : Int} (h : l[k]? = some m) (he : m.1 ≠ id) : keepM (l.take (k + 1)) id = keepM (l.take k) id ++ [m] := by
  unfold keepM
  rw [List.take_add_one, List.filter_append, h]
  simp [he]
theorem keepM_no {l : List (Int × Int)} {k : Nat} {m : Int × Int} {id : Int} (h : l[k]? = some m) (he : m.1 = id) : keepM (l.take (k + 1)) id = keepM (l.take k) id := by
  unfold keepM
  rw [List.take_add_one, List.filter_append, h]
  simp [he]
theorem keepM_len (l : List (Int × Int)) (id : Int) (k : Nat) : (keepM (l.take k) id).length ≤ l.length := by
  unfold keepM
  refine Nat.le_trans (List.length_filter_le _ _) ?_
  rw [List.length_take]; omega
/-- behind an append to a list of one's own -/
theorem app_out {w wr w' : World} {v : Value} {gu : Nat} {o : Obj} (hb : Below w.heap.size w wr) (hv : ∀ b, v.ownBlock = some b → w.heap.size ≤ b) (hg : (wr.alloc o).grownBy w' v.ownBlock) (hat : v.ownBlock = some gu ∨ (wr.alloc o).heap.size ≤ gu) : Below w.heap.size w w' ∧ w.heap.size ≤ gu := by
  have h1 := balloc hb o
  refine ⟨⟨hg.os.trans h1.os, hg.tape.trans h1.tape, hg.output.trans h1.output, Nat.le_trans h1.size hg.size, fun k hk => (hg.block k (Nat.lt_of_lt_of_le hk h1.size) (fun e => ?_)).trans (h1.block k hk)⟩, ?_⟩
  · have := hv k e.symm; omega
  · rcases hat with e | e
    · exact hv gu e
    · have := h1.size; omega

set_option maxHeartbeats 4000000 in
set_option maxRecDepth 100000 in
theorem rmark_any {w : World} {g : Nat} {F : Nat → Prop} {S : St} (h0 : RB w g F S) (hl : S.ch.length ≤ 1000) (id : Int) :
    Calls Tryz.prog 64 #[.pointer (some ⟨g, 0, none⟩), .int .i64 id] w fun e w' => e = .returned (.tuple #[]) ∧ Chg RB w w' g F { S with ch := markL S.ch id S.now } := by
  obtain ⟨tv, cv, gv, h, hF⟩ := h0
  have HH := Lib.hid h
  have HFF := Lib.hid hF
  obtain ⟨ca, ccap, hcv, hccap, hcmax⟩ := ColX.form h.chs
  have hcl : (S.ch.map mk8).length = S.ch.length := List.length_map _
  obtain ⟨n, hn⟩ : ∃ n, n = S.ch.length := ⟨_, rfl⟩
  rw [hcl, ← hn] at hcv hccap
  have HN := Lib.hid hn
  have HV : Hid (∀ u, Below w.heap.size w u → u.cell? ⟨g, 578, none⟩ = some (.slice ca n ccap) ∧ u.cell? ⟨g, 577, none⟩ = some (.int .i64 S.now) ∧ u.frozen? ⟨g, 578, none⟩ = false ∧ g < u.heap.size ∧ ColM u (.slice ca n ccap) S.ch) := Lib.hid (fun u k => by
    have h2 := h.keep k
    refine ⟨by rw [h2.row.cell (by omega), sF_ch, hcv], by rw [h2.row.cell (by omega), sF_now], h2.row.frozen _, h2.row.lt, ?_⟩
    have h3 := h2.chs
    rw [hcv] at h3
    exact h3)
  rw [← hn] at hl
  clear h hF hcl hn hcv
  go_enter Tryz.func64, Tryz.ntmps64
  go_wp2
  go_loopw [4, 5] (fun v4 i wr => ∃ k : Nat, k ≤ n ∧ i = .int .i64 k ∧ ColM wr v4 (keepM (S.ch.take k) id) ∧ (∀ b, v4.ownBlock = some b → w.heap.size ≤ b) ∧ Below w.heap.size w wr) (fun _ i _ => n - (intOf i).toNat)
  case atStart => exact ⟨0, by omega, rfl, ColX.nil _ _ _ _, fun b e => (by cases e), Below.refl _ _⟩
  case round =>
    obtain ⟨k, hk, rfl, hcol, hown, hb⟩ := hrel
    have HCol := Lib.hid hcol
    have HOwn := Lib.hid hown
    have HB := Lib.hid hb
    clear hcol hown hb
    obtain ⟨c578, c577, f578, hg, hcm⟩ := HV.out wr HB.out
    by_cases hlt : k < n
    · have hks : k < S.ch.length := by rw [← HN.out]; exact hlt
      obtain ⟨m, hm⟩ : ∃ m, S.ch[k]? = some m := ⟨_, List.getElem?_eq_getElem hks⟩
      have hm2 : (S.ch.map mk8)[k]? = some (mk8 m) := by rw [List.getElem?_map, hm]; rfl
      obtain ⟨b, cap', cur, hv, hbk, _⟩ := hcm.open_ (by rw [List.length_map]; omega)
      injection hv with h1 h2 h3
      subst h1
      have hrng := ColX.range (c := cM) (k := 2) (fun _ => rfl) hcm hm2
      have c0 : wr.cell? ⟨b, k * 2, none⟩ = some (.int .i64 m.1) := hrng 0 _ rfl
      have c1 : wr.cell? ⟨b, k * 2 + 1, none⟩ = some (.int .i64 m.2) := hrng 1 _ rfl
      have hbl := hbk.lt
      have j0 : (0 : Int) ≤ (k : Int) := by omega
      have j1 : (k : Int) < (n : Int) := by omega
      obtain ⟨m1, m2⟩ := m
      simp only at c0 c1
      have HM := Lib.hid hm
      clear hbk h2 h3 hrng hm hm2 hcm
      by_cases he : m1 = id
      · have he' : (m1 != id) = false := by simpa using he
        have HK := Lib.hid (keepM_no HM.out he)
        clear he
        go_wp2
        go_roundw
        case rel => exact ⟨k + 1, by omega, by go_num, by rw [HK.out]; exact HCol.out, HOwn.out, HB.out⟩
        case measure => simp [intOf] <;> omega
      · have he' : (m1 != id) = true := by simpa using he
        have HK := Lib.hid (keepM_yes HM.out he)
        clear he
        obtain ⟨Q, hQ⟩ : ∃ Q, Q = keepM (S.ch.take k) id := ⟨_, rfl⟩
        rw [← hQ] at HCol HK
        have hql : (Q.map mk8).length ≤ 2000 := by rw [List.length_map, hQ]; have := keepM_len S.ch id k; rw [← HN.out] at this; omega
        clear hQ
        obtain ⟨Qm, hQm⟩ : ∃ Qm, Qm = Q.map mk8 := ⟨_, rfl⟩
        rw [← hQm] at hql
        have HQm := Lib.hid hQm
        replace HCol : Hid (ColX wr 125 2 cM u4 Qm) := Lib.hid (by rw [hQm]; exact HCol.out)
        clear hQm
        go_wp2_with (at_builtin; refine wpList_appC rfl (.tmp 25) (.tmp 33) 87 125 2 16 (.agg #[.int .i64 0, .int .i64 0]) cM rfl Tryz.underlying87 minfo rfl (by decide) (by decide) (fun _ => rfl) u4 Qm rfl (col_keep HCol.out (alloc_below _ _)) hql (mk8 (m1, m2)) [.int .i64 m1, .int .i64 m2] rfl (mone m1 m2) wr.heap.size (Blk.new _ _ _) rfl ?_)
        intro gu gcap w4 hc hgr hat
        have HX4 := Lib.hid (app_out HB.out HOwn.out hgr (by simpa using hat))
        have HC4 : Hid (ColM w4 (.slice (some ⟨gu, 0, none⟩) (Qm.length + 1) gcap) (keepM (S.ch.take (k + 1)) id)) := Lib.hid (by
          show ColX w4 _ 2 cM _ ((keepM (S.ch.take (k + 1)) id).map mk8)
          rw [HK.out, List.map_append, ← HQm.out]; exact hc)
        clear hc hgr hat
        generalize Qm.length + 1 = nn at HC4 ⊢
        go_wp2
        go_roundw
        case rel => exact ⟨k + 1, by omega, by go_num, HC4.out, fun b e => by
          have : gu = b := by simpa [Value.ownBlock] using e
          rw [← this]; exact HX4.out.2, HX4.out.1⟩
        case measure => simp [intOf] <;> omega
    · obtain rfl : k = n := by omega
      rw [List.take_of_length_le (by rw [← HN.out]; exact Nat.le_refl _)] at HCol
      obtain ⟨Q, hQ⟩ : ∃ Q, Q = keepM S.ch id := ⟨_, rfl⟩
      have HMk : Hid (markL S.ch id S.now = Q ++ [(id, S.now)]) := Lib.hid (by rw [hQ]; rfl)
      rw [← hQ] at HCol
      have hql : (Q.map mk8).length ≤ 2000 := by rw [List.length_map, hQ]; have := keepM_len S.ch id S.ch.length; rw [List.take_length] at this; rw [← HN.out] at this; omega
      clear hQ hcm
      obtain ⟨Qm, hQm⟩ : ∃ Qm, Qm = Q.map mk8 := ⟨_, rfl⟩
      rw [← hQm] at hql
      have HQm := Lib.hid hQm
      replace HCol : Hid (ColX wr 125 2 cM u4 Qm) := Lib.hid (by rw [hQm]; exact HCol.out)
      obtain ⟨nw, hnw⟩ : ∃ nw, nw = S.now := ⟨_, rfl⟩
      rw [← hnw] at c577 HMk
      have HNw := Lib.hid hnw
      clear hQm hnw
      have j1 : ¬ (k : Int) < (k : Int) := by omega
      go_wp2_with (at_builtin; refine wpList_appC rfl (.tmp 35) (.tmp 42) 87 125 2 16 (.agg #[.int .i64 0, .int .i64 0]) cM rfl Tryz.underlying87 minfo rfl (by decide) (by decide) (fun _ => rfl) u4 Qm rfl (col_keep HCol.out (alloc_below _ _)) hql (mk8 (id, nw)) [.int .i64 id, .int .i64 nw] rfl (mone id nw) wr.heap.size (Blk.new _ _ _) rfl ?_)
      intro gu gcap w4 hc hgr hat
      obtain ⟨hb4, hgu⟩ := app_out HB.out HOwn.out hgr (by simpa using hat)
      have HC4 : Hid (ColM w4 (.slice (some ⟨gu, 0, none⟩) (Qm.length + 1) gcap) (markL S.ch id S.now)) := Lib.hid (by
        show ColX w4 _ 2 cM _ ((markL S.ch id S.now).map mk8)
        rw [← HNw.out, HMk.out, List.map_append, ← HQm.out]; exact hc)
      obtain ⟨d578, -, e578, hg4, -⟩ := HV.out w4 hb4
      have HB4 := Lib.hid hb4
      clear hc hgr hat hb4 c578 c577 f578 hg
      generalize Qm.length + 1 = nn at HC4 ⊢
      go_wp2
      go_end0
      refine ⟨rfl, Chg.rs HFF.out (HH.out.move (S' := { S with ch := markL S.ch id S.now }) (tv' := tv) (cv' := .slice (some ⟨gu, 0, none⟩) nn gcap) ?_ ?_ (fun i hi => ?_) ?_ rfl)⟩
      · exact ⟨HB4.out.os, HB4.out.tape, HB4.out.output, Nat.le_trans HB4.out.size (by simp [World.setCell]), fun q hq hne => by
          have : q ≠ g := fun e => hne (by rw [e])
          simp only [World.setCell, Array.getElem?_modify]
          rw [if_neg (fun e => this e.symm)]
          exact HB4.out.block q hq⟩
      · exact ((HH.out.keep HB4.out).row.set 578 _).congr (fun j _ => upv_ch _ j)
      · refine ⟨?_, fun b _ => Or.inl rfl⟩
        refine ColX.same ((HH.out.keep HB4.out).tab i hi) (fun b e => ?_)
        have : b ≠ g := fun c => HH.out.offT i hi (c ▸ e)
        simp only [World.setCell, Array.getElem?_modify]
        rw [if_neg (fun e => this e.symm)]
      · refine ⟨ColX.same HC4.out (fun b e => ?_), fun b e => Or.inr ?_⟩
        · have e' : gu = b := by simpa [Value.ownBlock] using e
          have hgg := HH.out.row.lt
          simp only [World.setCell, Array.getElem?_modify]
          rw [if_neg (by omega)]
        · have e' : gu = b := by simpa [Value.ownBlock] using e
          rw [← e']; exact hgu

end Go.Proofs.YtcpgkkphibhdfaaGreat
