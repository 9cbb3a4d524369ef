/-
  2 texts in one file, each with its own heading.
-/
import Derived.Test.YtcpgkkphibhdfaaGreatStoU
/-
  The reference's store: what its Query of layer 8 answers.
-/
namespace Go.Proofs.YtcpgkkphibhdfaaGreat
open Go.RowKit

set_option maxRecDepth 100000 in
/-- one list of names behind another one -/
theorem wpList_catD {ops : Array Oper} {rest : List Oper} {op : Oper} {a : Go.Act} {w : World} {Q : Exit → Go.Act → World → Prop} (hgd : op.guard = none) (ts tb : Operand)
    (ho : op.op = .call { callee := .builtin .append, args := #[ts, tb], argTypes := #[53, 53] }) (base n : Nat) (v : Value) (zs : List Int) (hs : a.eval ts = v) (hown : OwnD w base v n zs) (x : Option Addr) (m cap : Nat) (ys : List Int) (hx : a.eval tb = .slice x m cap) (row : Row w x m ys) (hn : n ≤ 100000) (hm : m ≤ 1000) (hb : base ≤ w.heap.size)
    (h : ∀ v' w', OwnD w' base v' (n + m) (zs ++ ys) → w.grownBy w' v.ownBlock → wpList Tryz.prog ops Q rest (a.put op.dst v') w') : wpList Tryz.prog ops Q (op :: rest) a w := by
  obtain ⟨i0, hi0, hz0, hz1, hz2⟩ := info_parts id_info
  have hl : ys.length = m := row.1
  cases x with
  | none =>
    have hm0 : m = 0 := by
      rcases row.2.2 with c | ⟨b, off, e, _⟩
      · exact c
      · cases e
    subst hm0
    have hys : ys = [] := List.eq_nil_of_length_eq_zero hl
    subst hys
    have h2 := h v w (by rw [Nat.add_zero, List.append_nil]; exact hown) ⟨rfl, rfl, rfl, Nat.le_refl _, fun _ _ _ => rfl⟩
    have hr : (Builtin.append_ #[53, 53] op.type #[v, .slice none 0 cap]).run Tryz.prog w = .ok v w := by
      rcases hown.2 with ⟨rfl, _⟩ | ⟨g, c, cur, rfl, _, _, hnc, _⟩
      · simp [Builtin.append_, run_underlying Tryz.underlying53, sizeOf, typeInfo, hi0, Builtin.lenOf, Builtin.firstCells]
      · simp [Builtin.append_, run_underlying Tryz.underlying53, sizeOf, typeInfo, hi0, Builtin.lenOf, Builtin.firstCells, loadCells, storeCells, hnc]
    refine wpList_plain hgd fun K hK => ?_
    have h3 := hK _ _ h2
    unfold Oper.wp execOp
    simp only [ho, resolve, invoke, builtin, Sem.run_bind, Sem.run_pure, Result.andThen_ok, List.map_toArray, List.map_cons, List.map_nil, hs, hx, hr]
    exact h3
  | some ad =>
    have hnews : ∀ j u, (ys.map (Value.int .i64))[j]? = some u → w.cell? (ad.add j) = some u := fun j u hu => by
      have hj : j < m := by have := (List.getElem?_eq_some_iff.1 hu).1; rw [List.length_map, hl] at this; exact this
      obtain ⟨b, off, y, e, hy, cy⟩ := row_at row hj
      injection e with e
      subst e
      rw [Addr.add_mid, cy]
      rw [List.getElem?_map, hy] at hu
      exact hu
    refine wpList_append_own _ hgd ts tb 53 ho base 35 i0 (.int .i64 0) 1 8 Tryz.underlying53 hi0 hz0 hz1 hz2 rfl (by decide) v n (zs.map (Value.int .i64)) hs hown ad m cap (ys.map (Value.int .i64)) hx (by rw [List.length_map, hl, Nat.mul_one]) hnews (fun u hu => by
      obtain ⟨y, _, rfl⟩ := List.mem_map.1 hu
      rfl) (by unfold maxLen; omega) (by omega) hb ?_
    intro v' w' h1 h2 _
    refine h v' w' ?_ h2
    unfold OwnD
    rw [List.map_append]
    exact h1
def quT (S : St) (a n : Int) (k : Nat) : List Int := (List.range k).flatMap fun i => if quB i a n then (S.T i).map Prod.fst else []
theorem quT_yes {S : St} {a n : Int} {k : Nat} (h : quB k a n = true) : quT S a n (k + 1) = quT S a n k ++ (S.T k).map Prod.fst := by
  unfold quT
  rw [List.range_succ, List.flatMap_append]
  simp [h]
theorem quT_no {S : St} {a n : Int} {k : Nat} (h : quB k a n = false) : quT S a n (k + 1) = quT S a n k := by
  unfold quT
  rw [List.range_succ, List.flatMap_append]
  simp [h]
set_option maxRecDepth 100000 in
theorem quT_len {S : St} {a n : Int} (h : ∀ i, i < 32 → (S.T i).length ≤ 1000) : ∀ k, k ≤ 32 → (quT S a n k).length ≤ k * 1000
  | 0, _ => by simp [quT]
  | k + 1, hk => by
    have ih := quT_len (a := a) (n := n) h k (by omega)
    cases c : quB k a n with
    | true =>
      rw [quT_yes c, List.length_append, List.length_map]
      have := h k (by omega)
      omega
    | false =>
      rw [quT_no c]
      omega
theorem own_below {w wr w' : World} {base : Nat} {v : Value} {n : Nat} {zs : List Int} (ho : OwnD wr base v n zs) (hw : w.heap.size ≤ base) (hb : Below w.heap.size w wr) (hg : wr.grownBy w' v.ownBlock) : Below w.heap.size w w' :=
  ⟨hg.os.trans hb.os, hg.tape.trans hb.tape, hg.output.trans hb.output, Nat.le_trans hb.size hg.size, fun k hk => (hg.block k (Nat.lt_of_lt_of_le hk hb.size) (fun e => by have := (World.ownsRow.lt ho k e.symm).1; omega)).trans (hb.block k hk)⟩

set_option maxHeartbeats 4000000 in
set_option maxRecDepth 100000 in
theorem rquery8_any {w : World} {g : Nat} {F : Nat → Prop} {S : St} (h0 : RB w g F S) (hB : Bd S 1000) (x y : Int) :
    Calls Tryz.prog 34 #[.pointer (some ⟨g, 0, none⟩), .int .i64 x, .int .i64 y] w fun e w' => ∃ v, e = .returned v ∧ LRes w w' (quL S x y) v ∧ Below w.heap.size w w' := by
  obtain ⟨tv, cv, gv, h, hF⟩ := h0
  have HId : Hid (∀ i, i < 32 → ∀ u, Below w.heap.size w u → Calls Tryz.prog 68 #[.pointer (some ⟨g, 513 + i * 2, none⟩)] u fun e w' => ∃ v, e = .returned v ∧ LRes u w' ((S.T i).map Prod.fst) v ∧ Below u.heap.size u w') := Lib.hid (fun i hi u k => rids_any ((h.keep k).view hi (hB.2.2.1 i hi)))
  have HLen : Hid (∀ i, i < 32 → ((S.T i).map Prod.fst).length ≤ 1000) := Lib.hid (fun i hi => by rw [List.length_map]; exact hB.2.2.1 i hi)
  have HQl : Hid (∀ k, k ≤ 32 → (quT S x y k).length ≤ 32000) := Lib.hid (fun k hk => by have := quT_len (S := S) (a := x) (n := y) hB.2.2.1 k hk; omega)
  have hg := h.row.lt
  clear h hF hB
  go_enter Tryz.func34, Tryz.ntmps34
  go_wp2
  go_loopw [7, 8] (fun v7 i wr => ∃ k : Nat, k ≤ 32 ∧ i = .int .i64 k ∧ OwnD wr w.heap.size v7 (quT S x y k).length (quT S x y k) ∧ Below w.heap.size w wr) (fun _ i _ => 32 - (intOf i).toNat)
  case atStart => exact ⟨0, by omega, rfl, OwnD.nil _ _, Below.refl _ _⟩
  case round =>
    obtain ⟨k, hk, rfl, hown, hb⟩ := hrel
    have HOwn := Lib.hid hown
    have HB := Lib.hid hb
    have hsz : w.heap.size ≤ wr.heap.size := hb.size
    have hgw : g < wr.heap.size := Nat.lt_of_lt_of_le hg hsz
    clear hown hb
    by_cases hlt : k < 32
    · have k0 : (0 : Int) ≤ (k : Int) := by omega
      have k1 : (k : Int) < 32 := by omega
      have hql := HQl.out k hk
      obtain ⟨b1, hb1⟩ : ∃ b1, b1 = (bits .and .i64 (k : Int) x == x) := ⟨_, rfl⟩
      obtain ⟨b2, hb2⟩ : ∃ b2, b2 = (bits .and .i64 (k : Int) y == 0) := ⟨_, rfl⟩
      have HQb : Hid (quB k x y = (b1 && b2)) := Lib.hid (by unfold quB; rw [hb1, hb2])
      have hb1' := hb1.symm
      have hb2' := hb2.symm
      clear hb1 hb2
      cases b1 with
      | false =>
        have HQ := Lib.hid (quT_no (S := S) (a := x) (n := y) (k := k) (by rw [HQb.out]; rfl))
        go_wp2
        go_roundw
        case rel => exact ⟨k + 1, by omega, by go_num, by rw [HQ.out]; exact HOwn.out, HB.out⟩
        case measure => simp [intOf] <;> omega
      | true =>
        cases b2 with
        | false =>
          have HQ := Lib.hid (quT_no (S := S) (a := x) (n := y) (k := k) (by rw [HQb.out]; rfl))
          go_wp2
          go_roundw
          case rel => exact ⟨k + 1, by omega, by go_num, by rw [HQ.out]; exact HOwn.out, HB.out⟩
          case measure => simp [intOf] <;> omega
        | true =>
          have HQ := Lib.hid (quT_yes (S := S) (a := x) (n := y) (k := k) (by rw [HQb.out]; rfl))
          obtain ⟨ys, hys⟩ : ∃ ys, ys = (S.T k).map Prod.fst := ⟨_, rfl⟩
          have hyl : ys.length ≤ 1000 := by rw [hys]; exact HLen.out k hlt
          have HIk : Hid (Calls Tryz.prog 68 #[.pointer (some ⟨g, 513 + k * 2, none⟩)] wr fun e w' => ∃ v, e = .returned v ∧ LRes wr w' ys v ∧ Below wr.heap.size wr w') := Lib.hid (by rw [hys]; exact HId.out k hlt wr HB.out)
          rw [← hys] at HQ
          obtain ⟨Q, hQ⟩ : ∃ Q, Q = quT S x y k := ⟨_, rfl⟩
          rw [← hQ] at HQ HOwn hql
          obtain ⟨nq, hnq⟩ : ∃ nq, nq = Q.length := ⟨_, rfl⟩
          rw [← hnq] at HOwn hql
          have HNq := Lib.hid hnq
          clear hys hQ hnq
          go_wp2_with fail
          refine HIk.out.mono ?_
          rintro e w2 ⟨v, rfl, ⟨va, vcap, hv, vrow, -⟩, b2⟩
          subst hv
          have HVr := Lib.hid vrow
          replace HOwn := Lib.hid (ownD_keep HOwn.out b2)
          replace HB := Lib.hid (bthen HB.out b2)
          have hsz2 := HB.out.size
          obtain ⟨ny, hny⟩ : ∃ ny, ny = ys.length := ⟨_, rfl⟩
          rw [← hny] at HVr hyl ⊢
          have HNy := Lib.hid hny
          clear vrow b2 hny HIk
          go_wp2_with (at_builtin; refine wpList_catD rfl (.tmp 24) (.tmp 30) rfl w.heap.size nq u7 Q rfl HOwn.out va ny vcap ys rfl HVr.out (by omega) hyl hsz2 ?_)
          intro v' w3 ho hgr
          have HO3 := Lib.hid ho
          have HB3 := Lib.hid (own_below HOwn.out (Nat.le_refl _) HB.out hgr)
          clear ho hgr
          go_wp2
          go_roundw
          case rel =>
            refine ⟨k + 1, by omega, by go_num, ?_, HB3.out⟩
            rw [HQ.out, List.length_append, ← HNq.out, ← HNy.out]
            exact HO3.out
          case measure => simp [intOf] <;> omega
    · obtain rfl : k = 32 := by omega
      have HRs : Hid (quL S x y = quT S x y 32) := Lib.hid rfl
      obtain ⟨Q, hQ⟩ : ∃ Q, Q = quT S x y 32 := ⟨_, rfl⟩
      rw [← hQ] at HOwn HRs
      clear hQ
      obtain ⟨qa, qcap, hqv, hqr⟩ := HOwn.out.row
      have HLr := Lib.hid (LRes.own HOwn.out)
      subst hqv
      clear hqr
      go_wp2
      go_ret
      exact ⟨_, rfl, by rw [HRs.out]; exact HLr.out, HB.out⟩

end Go.Proofs.YtcpgkkphibhdfaaGreat
/-
  A program's store and the reference's, side by side; a step of the law StorePlays of layer 8, for any package that answers as the bundle says.
-/
namespace Go.Proofs.YtcpgkkphibhdfaaGreat
open Go.RowKit

theorem RB.inb {w : World} {g : Nat} {F : Nat → Prop} {S : St} (h : RB w g F S) : ∀ b, F b → b < w.heap.size := by
  obtain ⟨tv, cv, gv, h1, hF⟩ := h
  exact fun b hb => h1.inb b ((hF b).1 hb)
theorem RB.same {w w' : World} {g : Nat} {F : Nat → Prop} {S : St} (h : RB w g F S) (he : ∀ b, F b → w'.heap[b]? = w.heap[b]?) : RB w' g F S := by
  obtain ⟨tv, cv, gv, h1, hF⟩ := h
  exact ⟨tv, cv, gv, h1.same (fun b hb => he b ((hF b).2 hb)), hF⟩
theorem RB.at_ {w : World} {g : Nat} {F : Nat → Prop} {S : St} (h : RB w g F S) : F g := by
  obtain ⟨tv, cv, gv, h1, hF⟩ := h
  exact (hF g).2 (Or.inl rfl)
/-- the program's store and the reference's, side by side -/
structure Duo (SB : World → Nat → (Nat → Prop) → St → Prop) (w0 w : World) (gp gr : Nat) (Fp Fq : Nat → Prop) (S1 S2 : St) : Prop where
  sp : SB w gp Fp S1
  rb : RB w gr Fq S2
  dis : ∀ b, Fp b → ¬ Fq b
  bel : Below w0.heap.size w0 w
  fp : ∀ b, Fp b → w0.heap.size ≤ b
  fq : ∀ b, Fq b → w0.heap.size ≤ b
/-- a block that is neither's -/
def Own (w : World) (ga : Nat) (t : TypeId) (C : Array Value) (Fp Fq : Nat → Prop) : Prop := Blk w ga t C ∧ ¬ Fp ga ∧ ¬ Fq ga
section
variable {SB : World → Nat → (Nat → Prop) → St → Prop} {w0 w w' : World} {gp gr : Nat} {Fp Fq : Nat → Prop} {S1 S2 S' : St}
theorem Own.keep {ga : Nat} {t : TypeId} {C : Array Value} (h : Own w ga t C Fp Fq) (hb : Below w.heap.size w w') : Own w' ga t C Fp Fq := ⟨Blk.keep h.1 hb, h.2⟩
theorem Duo.keep (hC : SC SB) (h : Duo SB w0 w gp gr Fp Fq S1 S2) (hb : Below w.heap.size w w') : Duo SB w0 w' gp gr Fp Fq S1 S2 :=
  ⟨hC.keep h.sp hb, h.rb.keep hb, h.dis, bthen h.bel hb, h.fp, h.fq⟩
theorem Duo.prog (h : Duo SB w0 w gp gr Fp Fq S1 S2) (ch : Chg SB w w' gp Fp S') : ∃ Fp', Duo SB w0 w' gp gr Fp' Fq S' S2 ∧ ∀ ga t C, Own w ga t C Fp Fq → Own w' ga t C Fp' Fq := by
  obtain ⟨F', h1, h2, h3⟩ := ch
  refine ⟨F', ⟨h1, h.rb.same (fun b hb => h2.2.2.2.2 b (h.rb.inb b hb) (fun c => h.dis b c hb)), fun b hb hq => ?_, Fr.below h2 h.bel h.fp h.bel.size, fun b hb => ?_, h.fq⟩, fun ga t C ho => ⟨ho.1.same (h2.2.2.2.2 ga ho.1.lt ho.2.1), fun c => ?_, ho.2.2⟩⟩
  · rcases h3 b hb with d | d
    · exact h.dis b d hq
    · have := h.rb.inb b hq; omega
  · rcases h3 b hb with d | d
    · exact h.fp b d
    · exact Nat.le_trans h.bel.size d
  · rcases h3 ga c with d | d
    · exact ho.2.1 d
    · have := ho.1.lt; omega
theorem Duo.ref (hC : SC SB) (h : Duo SB w0 w gp gr Fp Fq S1 S2) (ch : Chg RB w w' gr Fq S') : ∃ Fq', Duo SB w0 w' gp gr Fp Fq' S1 S' ∧ ∀ ga t C, Own w ga t C Fp Fq → Own w' ga t C Fp Fq' := by
  obtain ⟨F', h1, h2, h3⟩ := ch
  refine ⟨F', ⟨hC.keep_ w w' gp Fp S1 h.sp (fun b hb => h2.2.2.2.2 b (hC.inb w gp Fp S1 h.sp b hb) (fun c => h.dis b hb c)), h1, fun b hb hq => ?_, Fr.below h2 h.bel h.fq h.bel.size, h.fp, fun b hb => ?_⟩, fun ga t C ho => ⟨ho.1.same (h2.2.2.2.2 ga ho.1.lt ho.2.2), ho.2.1, fun c => ?_⟩⟩
  · rcases h3 b hq with d | d
    · exact h.dis b hb d
    · have := hC.inb w gp Fp S1 h.sp b hb; omega
  · rcases h3 b hb with d | d
    · exact h.fq b d
    · exact Nat.le_trans h.bel.size d
  · rcases h3 ga c with d | d
    · exact ho.2.2 d
    · have := ho.1.lt; omega
/-- what came in lies in neither -/
theorem aw_in {w0 : World} {a : Option Addr} {n : Nat} {zs : List Int} {F : Nat → Prop} (h : Row w0 a n zs) (hF : ∀ b, F b → w0.heap.size ≤ b) : Aw F a n := by
  rcases h.2.2 with c | ⟨b, off, e, hc⟩
  · exact Or.inl c
  · by_cases c : n = 0
    · exact Or.inl c
    · refine Or.inr (fun ad e2 hf => ?_)
      rw [e] at e2
      injection e2 with e2
      have h1 := World.block_lt_of_cell? w0 _ (hc 0 (by omega))
      have h2 := hF _ hf
      rw [← e2] at h2
      have h3 : b < w0.heap.size := h1
      have h4 : w0.heap.size ≤ b := h2
      omega
theorem aw_new2 {W : World} {F : Nat → Prop} {n : Nat} (hF : ∀ b, F b → b < W.heap.size) : Aw F (some ⟨W.heap.size, 0, none⟩) n := Or.inr (fun ad e hf => by
  injection e with e
  rw [← e] at hf
  have h2 : W.heap.size < W.heap.size := hF _ hf
  omega)
theorem rall8 {w : World} {g : Nat} {F : Nat → Prop} {S : St} (h0 : RB w g F S) (hW : WS S) : Calls Tryz.prog 28 #[.pointer (some ⟨g, 0, none⟩)] w fun e w' => ∃ a cap, e = .returned (.slice a (alS S).length cap) ∧ Row w' a (alS S).length (alS S) ∧ Below w.heap.size w w' := by
  obtain ⟨tv, cv, gv, h, hF⟩ := h0
  exact pall8 (E := stE tv S.now cv gv) (t := 89) (N := 580) (by omega) g S.room S.G S.L w hW.ok.gen h.row
/-- the reference's tick is one more -/
theorem rnext8 {w : World} {g : Nat} {F : Nat → Prop} {S : St} (h0 : RB w g F S) : (w.cell? ⟨g, 577, none⟩ = some (.int .i64 S.now) ∧ w.frozen? ⟨g, 577, none⟩ = false ∧ g < w.heap.size) ∧ Chg RB w (w.setCell ⟨g, 577, none⟩ (.int .i64 (S.now + 1))) g F (neS S) := by
  obtain ⟨tv, cv, gv, h, hF⟩ := h0
  have hst : ∀ b, b ≠ g → (w.setCell ⟨g, 577, none⟩ (.int .i64 (S.now + 1))).heap[b]? = w.heap[b]? := fun b c => by
    simp only [World.setCell, Array.getElem?_modify]
    rw [if_neg (fun e => c e.symm)]
  have hg : w.grownBy (w.setCell ⟨g, 577, none⟩ (.int .i64 (S.now + 1))) (some g) := grown_set _ _ _ _
  refine ⟨⟨by rw [h.row.cell (by omega)]; rfl, h.row.frozen _, h.row.lt⟩, Chg.rs hF (h.move (S' := neS S) hg ((h.row.set 577 _).congr (fun j hj => ?_)) (fun i hi => ⟨h.colT hg hi, fun b _ => Or.inl rfl⟩) ⟨h.colC hg, fun b _ => Or.inl rfl⟩ rfl)⟩
  show (if j = 577 then _ else poolX (stE tv S.now cv gv) S.room S.G S.L j) = poolX (stE tv (S.now + 1) cv gv) S.room S.G S.L j
  unfold poolX stE
  by_cases c : j = 577
  · rw [if_pos c, if_neg (by omega), if_neg (by omega), if_pos c]
  · rw [if_neg c]
    by_cases d : j < 513
    · rw [if_pos d, if_pos d]
    · rw [if_neg d, if_neg d]
      by_cases e : j < 577
      · rw [if_pos e, if_pos e]
      · rw [if_neg e, if_neg e, if_neg c, if_neg c]
end
end Go.Proofs.YtcpgkkphibhdfaaGreat
