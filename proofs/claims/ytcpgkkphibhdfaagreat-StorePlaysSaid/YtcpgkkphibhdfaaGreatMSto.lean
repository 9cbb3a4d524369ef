/-
  2 texts in one file, each with its own heading.
-/
import Derived.Test.YtcpgkkphibhdfaaGreatMStm
/-
  The reference's store: what its Spawn and lay of layer 8 answer.
-/
namespace Go.Proofs.YtcpgkkphibhdfaaGreat
open Go.RowKit

theorem gblk8 {w w' : World} {g gp : Nat} {t : TypeId} {C : Array Value} (hg : w.grownBy w' (some g)) (h : Blk w gp t C) (hne : gp ≠ g) : Blk w' gp t C := h.same (hg.block gp h.lt (fun e => hne (by injection e)))
theorem RS.pool {w w' : World} {g : Nat} {S : St} {tv : Nat → Value} {cv gv : Value} (h : RS w g S tv cv gv) {G : Nat → Int} {L : Nat → Bool} (hr : w'.rowIs g 89 580 (poolX (stE tv S.now cv gv) S.room G L)) (hg : w.grownBy w' (some g)) : RS w' g { S with G := G, L := L } tv cv gv ∧ Fr w w' (foot8 g tv cv gv) ∧ ∀ b, foot8 g tv cv gv b → foot8 g tv cv gv b ∨ w.heap.size ≤ b :=
  h.move (S' := { S with G := G, L := L }) hg hr (fun _ hi => ⟨h.colT hg hi, fun _ _ => Or.inl rfl⟩) ⟨h.colC hg, fun _ _ => Or.inl rfl⟩ rfl
theorem TU.grown {w w' : World} {g o : Nat} {t : TypeId} {N : Nat} {f : Nat → Value} {R : TR} (h : TU w w' g o t N f R) : w.grownBy w' (some g) := h.choose_spec.2.2.2

set_option maxHeartbeats 8000000 in
set_option maxRecDepth 100000 in
theorem rspawn_any {w : World} {g : Nat} {F : Nat → Prop} {S : St} (h0 : RB w g F S) (hW : WS S) (hB : Bd S 1000) (P : PT) :
    Calls Tryz.prog 33 #[.pointer (some ⟨g, 0, none⟩), .agg (pl P).toArray] w fun e w' => e = .returned (.tuple #[.int .i64 (spV S P), .int .i64 (spE S P)]) ∧ Chg RB w w' g F (spS S P) := by
  have HRB := Lib.hid h0
  obtain ⟨tv, cv, gv, h, hF⟩ := h0
  have HH := Lib.hid h
  have HFF := Lib.hid hF
  have HB0 := Lib.hid hB
  have HPO := Lib.hid hW.ok
  have hg := h.row.lt
  obtain ⟨r, hr⟩ : ∃ r, rightT P = r := ⟨_, rfl⟩
  have HRc : Hid (∀ w, Calls Tryz.prog 65 #[.agg (pl P).toArray] w fun e w' => e = .returned (.bool r) ∧ Below w.heap.size w w') := Lib.hid (fun w => rrightT hr w)
  have HRt := Lib.hid hr
  have HSz := Lib.hid (pl_size P)
  have HC : Hid (∀ u g, Blk u g 44 (pl P).toArray → u.cell? ⟨g, 0, none⟩ = some (.int .i64 P.1)) := Lib.hid (fun u g k => k.cell 0)
  have HAdd : Hid (∀ (u : World) (g o : Nat) (t : TypeId) (N : Nat) (f : Nat → Value) (s : Int) (v : Value) (R : TR) (id : Int), TV u g o t N f s v R → Calls Tryz.prog 67 #[.pointer (some ⟨g, o, none⟩), .int .i64 id, .agg (pl P).toArray] u fun e w' => e = .returned (.tuple #[.int .i64 (tadN s R id P), .int .i64 (tadE s R id P)]) ∧ TU u w' g o t N f (tadR s R id P)) := Lib.hid (fun u g o t N f s v R id k => radd_any k id P)
  obtain ⟨Xp, hXp⟩ : ∃ Xp, Xp = pl P := ⟨_, rfl⟩
  rw [← hXp] at HRc HSz HC HAdd ⊢
  have KP := Lib.hid (Blk.new w 44 Xp.toArray)
  have HB : Hid (Below w.heap.size w (w.alloc (.cells Xp.toArray 44))) := Lib.hid (alloc_below _ _)
  clear hXp hr h hF hW hB
  go_enter Tryz.func33, Tryz.ntmps33
  go_wp2_with (refine wpList_load_mid rfl 44 (.tmp 3) rfl w.heap.size 0 rfl Xp _ (blk_whole KP.out) Tryz.underlying44 rfl HSz.out ?_)
  refine (HRc.out _).mono ?_
  rintro e w1 ⟨rfl, b1⟩
  replace KP := Lib.hid (Blk.keep KP.out b1)
  replace HB := Lib.hid (bthen HB.out b1)
  clear b1 HRc
  have hg1 : g < w1.heap.size := Nat.lt_of_lt_of_le hg HB.out.size
  cases r with
  | false =>
    go_wp2
    go_ret2
    have e1 : spE S P = 1 := by unfold spE; rw [HRt.out]; rfl
    have e2 : spV S P = 0 := by unfold spV; rw [e1]; rfl
    have e3 : spS S P = S := by unfold spS; rw [e1]; rfl
    exact ⟨by rw [e1, e2]; rfl, by rw [e3]; exact Chg.still HRB.out HB.out⟩
  | true =>
    have HTk : Hid (Calls Tryz.prog 66 #[.pointer (some ⟨g, 0, none⟩)] w1 fun e w' => e = .returned (.tuple #[.int .i64 (tkV S.G S.L S.room), .int .i64 (tkE S.G S.L S.room)]) ∧ w'.rowIs g 89 580 (poolX (stE tv S.now cv gv) S.room S.G (tkL S.G S.L S.room)) ∧ w1.grownBy w' (some g)) := Lib.hid (ptake8 (E := stE tv S.now cv gv) (t := 89) (N := 580) (by omega) g S.room S.G S.L w1 HPO.out.1 HPO.out.gen (HH.out.keep HB.out).row)
    obtain ⟨id, hid⟩ : ∃ id, id = tkV S.G S.L S.room := ⟨_, rfl⟩
    have HId := Lib.hid hid
    obtain ⟨te, hte⟩ : ∃ te, te = tkE S.G S.L S.room := ⟨_, rfl⟩
    have HTe := Lib.hid hte
    rw [← hid, ← hte] at HTk
    clear hid hte
    go_wp2_with fail
    refine HTk.out.mono ?_
    rintro e w2 ⟨rfl, hrow, hgr⟩
    have HG2 := Lib.hid hgr
    have HR2 := Lib.hid ((HH.out.keep HB.out).pool hrow hgr)
    replace KP := Lib.hid (gblk8 hgr KP.out (by omega))
    have hg2 : g < w2.heap.size := Nat.lt_of_lt_of_le hg1 hgr.size
    clear hrow hgr HTk
    cases htk : tkI S.G S.L S.room with
    | none =>
      obtain ⟨t1, t2, t3⟩ := tk_none_v htk
      have te3 : te = 3 := by rw [HTe.out, t2]
      subst te3
      have e1 : Hid (spE S P = 3) := Lib.hid (by unfold spE; rw [HRt.out, t2]; rfl)
      have HS2 : Hid (Chg RB w w2 g F S) := Lib.hid (by
        have h2 := HR2.out
        rw [t3] at h2
        exact (Chg.rs HFF.out h2).of HB.out)
      clear t1 t2 t3 htk HR2
      go_wp2
      go_ret2
      have e2 : spV S P = 0 := by unfold spV; rw [e1.out]; rfl
      have e3 : spS S P = S := by unfold spS; rw [e1.out]; rfl
      exact ⟨by rw [e1.out, e2]; rfl, by rw [e3]; exact HS2.out⟩
    | some i =>
      obtain ⟨t1, t2⟩ := tk_some_v htk
      have te0 : te = 0 := by rw [HTe.out, t2]
      subst te0
      have e1 : Hid (spE S P = 0) := Lib.hid (by unfold spE; rw [HRt.out, t2]; rfl)
      obtain ⟨k32, kk, _, _⟩ := right_has HRt.out
      obtain ⟨k, hk⟩ : ∃ k, k = P.1.toNat := ⟨_, rfl⟩
      rw [← hk] at k32 kk
      have HK := Lib.hid hk
      have HKK := Lib.hid kk
      rw [← kk] at HC
      have k0 : (0 : Int) ≤ (k : Int) := by omega
      have k1 : (k : Int) < 32 := by omega
      have HTL : Hid ((S.T k).length ≤ 1000) := Lib.hid (HB0.out.2.2.1 k k32)
      have HAd : Hid (Calls Tryz.prog 67 #[.pointer (some ⟨g, 513 + k * 2, none⟩), .int .i64 id, .agg Xp.toArray] w2.drew fun e w' => e = .returned (.tuple #[.int .i64 (tadN k (S.T k) id P), .int .i64 (tadE k (S.T k) id P)]) ∧ TU w2.drew w' g (513 + k * 2) 89 580 (sF { S with L := tkL S.G S.L S.room } tv cv gv) (tadR k (S.T k) id P)) := Lib.hid (HAdd.out _ _ _ _ _ _ _ _ _ _ ((HR2.out.1.same (w' := w2.drew) (fun _ _ => rfl)).view k32 HTL.out))
      obtain ⟨z1, hz1⟩ : ∃ z1, z1 = tadN k (S.T k) id P := ⟨_, rfl⟩
      obtain ⟨z2, hz2⟩ : ∃ z2, z2 = tadE k (S.T k) id P := ⟨_, rfl⟩
      rw [← hz1, ← hz2] at HAd
      clear t1 t2 htk hk kk HAdd hz1 hz2
      go_upto_region 7 with fail
      refine wp_region_held_drew (S := fun w' => w'.cell? ⟨w.heap.size, 0, none⟩ = some (.int .i64 k) ∧ w'.rangeAt w.heap.size 0 Xp) (by kernel_rfl) (⟨HC.out _ _ (Blk.drew KP.out), blk_whole (Blk.drew KP.out)⟩) (fun hHeld => ?_)
      refine wpAnyH_take (i := 0) (v := ?_) rfl (by kernel_rfl) (by kernel_rfl) (by kernel_rfl) (fun _ _ _ h => h) (Or.inl ⟨by rfl, ?_⟩) hHeld ?_
      rotate_left
      · intro w hSw
        obtain ⟨s1, s2⟩ := hSw
        go_simp
        with_reducible rfl
      simp only [Act.put, List.getElem_toArray, List.getElem_cons_zero, List.setIfInBounds_toArray, List.set_cons_zero, List.set_cons_succ]
      refine wpAnyH_take (i := 1) (v := ?_) rfl (by kernel_rfl) (by kernel_rfl) (by kernel_rfl) (fun _ _ _ h => h) (Or.inl ⟨by rfl, ?_⟩) hHeld ?_
      rotate_left
      · intro w hSw
        obtain ⟨s1, s2⟩ := hSw
        go_simp
        with_reducible rfl
      simp only [Act.put, List.getElem_toArray, List.getElem_cons_zero, List.getElem_cons_succ, List.setIfInBounds_toArray, List.set_cons_zero, List.set_cons_succ]
      refine wpAnyH_take (i := 2) (v := ?_) rfl (by kernel_rfl) (by kernel_rfl) (by kernel_rfl) (fun _ _ _ h => h) (Or.inl ⟨by rfl, ?_⟩) hHeld ?_
      rotate_left
      · intro w hSw
        obtain ⟨s1, s2⟩ := hSw
        go_simp
        with_reducible rfl
      simp only [Act.put, List.getElem_toArray, List.getElem_cons_zero, List.getElem_cons_succ, List.setIfInBounds_toArray, List.set_cons_zero, List.set_cons_succ]
      refine wpAnyH_take (i := 3) (v := ?_) rfl (by kernel_rfl) (by kernel_rfl) (by kernel_rfl) (fun _ _ _ h => h) (Or.inl ⟨by rfl, ?_⟩) hHeld ?_
      rotate_left
      · intro w hSw
        obtain ⟨s1, s2⟩ := hSw
        go_simp
        with_reducible rfl
      simp only [Act.put, List.getElem_toArray, List.getElem_cons_zero, List.getElem_cons_succ, List.setIfInBounds_toArray, List.set_cons_zero, List.set_cons_succ]
      refine wpAnyH_take (i := 4) (v := ?_) rfl (by kernel_rfl) (by kernel_rfl) (by kernel_rfl) (fun _ _ _ h => h) (Or.inl ⟨by rfl, ?_⟩) hHeld ?_
      rotate_left
      · intro w hSw
        obtain ⟨s1, s2⟩ := hSw
        go_simp
        with_reducible rfl
      simp only [Act.put, List.getElem_toArray, List.getElem_cons_zero, List.getElem_cons_succ, List.setIfInBounds_toArray, List.set_cons_zero, List.set_cons_succ]
      refine wpAnyH_take (i := 5) (v := ?_) rfl (by kernel_rfl) (by kernel_rfl) (by kernel_rfl) (fun _ _ _ h => h) (Or.inl ⟨by rfl, ?_⟩) hHeld ?_
      rotate_left
      · intro w hSw
        obtain ⟨s1, s2⟩ := hSw
        go_simp
        with_reducible rfl
      simp only [Act.put, List.getElem_toArray, List.getElem_cons_zero, List.getElem_cons_succ, List.setIfInBounds_toArray, List.set_cons_zero, List.set_cons_succ]
      refine wpAnyH_take (i := 6) (v := ?_) rfl (by kernel_rfl) (by kernel_rfl) (by kernel_rfl) (fun _ _ _ h => h) (Or.inl ⟨by rfl, ?_⟩) hHeld ?_
      rotate_left
      · intro w hSw
        obtain ⟨s1, s2⟩ := hSw
        go_simp
        with_reducible rfl
      simp only [Act.put, List.getElem_toArray, List.getElem_cons_zero, List.getElem_cons_succ, List.setIfInBounds_toArray, List.set_cons_zero, List.set_cons_succ]
      refine wpAnyH_take (i := 7) (v := _) rfl (by kernel_rfl) (by kernel_rfl) (by kernel_rfl) (fun _ _ _ h => h) (yieldsIf_load_mid (by rfl) _ _ rfl _ _ rfl _ _ (fun _ h => h.2) Tryz.underlying44 rfl HSz.out) hHeld ?_
      simp only [Act.put, List.getElem_toArray, List.getElem_cons_zero, List.getElem_cons_succ, List.setIfInBounds_toArray, List.set_cons_zero, List.set_cons_succ]
      refine wpAnyH_ready (rs := [8]) (by kernel_rfl) (by simp) ?_
      refine AllReadyH.cons rfl (fun K hK => ?_) AllReadyH.nil
      go_simp
      go_at_call 67
      refine (HAd.out).mono ?_
      rintro e w3 ⟨rfl, tu⟩
      have KN := Lib.hid (gblk8 tu.grown (Blk.drew KP.out) (by omega))
      obtain ⟨tv3, rs3, fr3, new3⟩ := (HR2.out.1.same (w' := w2.drew) (fun _ _ => rfl)).table k32 tu
      have HR3 := Lib.hid rs3
      have HF3 : Hid (Fr w w3 F ∧ ∀ b, foot8 g tv3 cv gv b → F b ∨ w.heap.size ≤ b) := Lib.hid (by
        have hF2 : ∀ b, foot8 g tv cv gv b → F b := fun b hb => (HFF.out b).2 hb
        have f1 : Fr w w2.drew F := Fr.after HB.out ⟨HR2.out.2.1.1, HR2.out.2.1.2.1, HR2.out.2.1.2.2.1, HR2.out.2.1.2.2.2.1, fun b hb hn => HR2.out.2.1.2.2.2.2 b hb (fun c => hn (hF2 b c))⟩
        refine ⟨⟨fr3.1.trans f1.1, fr3.2.1.trans f1.2.1, fr3.2.2.1.trans f1.2.2.1, Nat.le_trans f1.2.2.2.1 fr3.2.2.2.1, fun b hb hn => (fr3.2.2.2.2 b (Nat.lt_of_lt_of_le hb f1.2.2.2.1) (fun c => hn (hF2 b c))).trans (f1.2.2.2.2 b hb hn)⟩, fun b hb => ?_⟩
        rcases new3 b hb with c | c
        · exact Or.inl (hF2 b c)
        · exact Or.inr (Nat.le_trans f1.2.2.2.1 c))
      clear tu rs3 fr3 new3
      go_wp2_with fail
      refine hK.out _ _ (⟨HC.out _ _ KN.out, blk_whole KN.out⟩) (fun hHeld => ?_)
      clear hK K
      refine wpAnyH_done (by kernel_rfl) ?_ _
      clear hHeld KN HAd
      have HMk : Hid (Calls Tryz.prog 64 #[.pointer (some ⟨g, 0, none⟩), .int .i64 id] w3 fun e w' => e = .returned (.tuple #[]) ∧ Chg RB w w' g F (spS S P)) := Lib.hid (by
        have h4 := rmark_any (w := w3) (g := g) (F := foot8 g tv3 cv gv) ⟨tv3, cv, gv, HR3.out, fun _ => Iff.rfl⟩ HB0.out.1 id
        refine h4.mono fun e w' k4 => ⟨k4.1, ?_⟩
        have h5 := Chg.trans HF3.out.1 HF3.out.2 k4.2
        have e3 : spS S P = { S with L := tkL S.G S.L S.room, T := upf S.T k (tadR k (S.T k) id P), ch := markL S.ch id S.now } := by
          unfold spS
          rw [if_pos e1.out, ← HId.out, ← HK.out, ← HKK.out]
        rw [e3]
        exact h5)
      go_wp2_with fail
      refine HMk.out.mono ?_
      rintro e w4 ⟨rfl, ch⟩
      have HCh := Lib.hid ch
      clear ch HMk HR3 HF3
      go_wp2
      go_ret2
      have e2 : spV S P = id := by unfold spV; rw [e1.out, HId.out]; rfl
      exact ⟨by rw [e1.out, e2]; rfl, HCh.out⟩

end Go.Proofs.YtcpgkkphibhdfaaGreat
/-
  The reference's store: what its lay of layer 8 answers.
-/
namespace Go.Proofs.YtcpgkkphibhdfaaGreat
open Go.RowKit

theorem Fr.two {a b d : World} {F F' : Nat → Prop} (h : Fr a b F) (h' : Fr b d F') (hn : ∀ x, F' x → F x ∨ a.heap.size ≤ x) : Fr a d F :=
  ⟨h'.1.trans h.1, h'.2.1.trans h.2.1, h'.2.2.1.trans h.2.2.1, Nat.le_trans h.2.2.2.1 h'.2.2.2.1, fun x hx hf => (h'.2.2.2.2 x (Nat.lt_of_lt_of_le hx h.2.2.2.1) (fun c => (hn x c).elim (fun d => hf d) (fun d => by omega))).trans (h.2.2.2.2 x hx hf)⟩
/-- one table more that is another one -/
theorem RS.next {w w1 w2 : World} {g : Nat} {F : Nat → Prop} {S : St} {tv : Nat → Value} {cv gv : Value} (hs : RS w1 g S tv cv gv) (hf : Fr w w1 F) (hn : ∀ b, foot8 g tv cv gv b → F b ∨ w.heap.size ≤ b) {i : Nat} (hi : i < 32) {R : TR} (hu : TU w1 w2 g (513 + i * 2) 89 580 (sF S tv cv gv) R) :
    ∃ tv', RS w2 g { S with T := upf S.T i R } tv' cv gv ∧ Fr w w2 F ∧ ∀ b, foot8 g tv' cv gv b → F b ∨ w.heap.size ≤ b := by
  obtain ⟨tv', h1, h2, h3⟩ := hs.table hi hu
  refine ⟨tv', h1, hf.two h2 hn, fun b hb => ?_⟩
  rcases h3 b hb with c | c
  · exact hn b c
  · exact Or.inr (Nat.le_trans hf.2.2.2.1 c)
theorem RS.drew {w : World} {g : Nat} {S : St} {tv : Nat → Value} {cv gv : Value} (h : RS w g S tv cv gv) : RS w.drew g S tv cv gv := h.same (fun _ _ => rfl)
theorem Fr.drew {w w' : World} {F : Nat → Prop} (h : Fr w w' F) : Fr w w'.drew F := h

set_option maxHeartbeats 8000000 in
set_option maxRecDepth 100000 in
theorem rlay8_any {w : World} {g : Nat} {F : Nat → Prop} {S : St} (h0 : RB w g F S) (hB : Bd S 1000) (id : Int) {i : Nat} (ha : atS S id = some i) (P : PT) (hrt : rightT P = true) :
    Calls Tryz.prog 61 #[.pointer (some ⟨g, 0, none⟩), .int .i64 id, .agg (pl P).toArray] w fun e w' => e = .returned (.tuple #[]) ∧ Chg RB w w' g F (layS S id P) := by
  obtain ⟨tv, cv, gv, h, hF⟩ := h0
  have HH := Lib.hid h
  have HFF := Lib.hid hF
  have HB0 := Lib.hid hB
  have hg := h.row.lt
  obtain ⟨i32, hhi⟩ := at_some ha
  obtain ⟨row, hrow⟩ : ∃ row, row = findI (S.T i) id := ⟨_, rfl⟩
  have HRow := Lib.hid hrow
  have HAt : Hid (∀ u, Below w.heap.size w u → Calls Tryz.prog 57 #[.pointer (some ⟨g, 0, none⟩), .int .i64 id] u fun e w' => e = .returned (.tuple #[.int .i64 (i : Int), .int .i64 row]) ∧ u = w') := Lib.hid (fun u k => (rat_any (h.keep k) hB.2.2.1 id).mono fun _ _ q => ⟨by rw [q.1]; unfold atI atR; rw [ha, hrow], q.2⟩)
  have HLy : Hid (layS S id P = { S with T := layTs S.T i id P, ch := markL S.ch id S.now }) := Lib.hid (by unfold layS; rw [ha])
  obtain ⟨k32, kk, _, _⟩ := right_has hrt
  obtain ⟨k, hk⟩ : ∃ k, k = P.1.toNat := ⟨_, rfl⟩
  rw [← hk] at k32 kk
  have HK := Lib.hid hk
  have HKK := Lib.hid kk
  have HSz := Lib.hid (pl_size P)
  have HC : Hid (∀ u g, Blk u g 44 (pl P).toArray → u.cell? ⟨g, 0, none⟩ = some (.int .i64 (k : Int))) := Lib.hid (fun u g q => by rw [kk]; exact q.cell 0)
  have HAdd : Hid (∀ (u : World) (g o : Nat) (t : TypeId) (N : Nat) (f : Nat → Value) (s : Int) (v : Value) (R : TR) (id : Int), TV u g o t N f s v R → Calls Tryz.prog 67 #[.pointer (some ⟨g, o, none⟩), .int .i64 id, .agg (pl P).toArray] u fun e w' => (∃ z1 z2, e = .returned (.tuple #[.int .i64 z1, .int .i64 z2])) ∧ TU u w' g o t N f (tadR s R id P)) := Lib.hid (fun u g o t N f s v R id k => (radd_any k id P).mono fun _ _ q => ⟨⟨_, _, q.1⟩, q.2⟩)
  have HPut : Hid (∀ (u : World) (g o : Nat) (t : TypeId) (N : Nat) (f : Nat → Value) (s : Int) (v : Value) (R : TR) (row : Int), TV u g o t N f s v R → Calls Tryz.prog 95 #[.pointer (some ⟨g, o, none⟩), .int .i64 row, .agg (pl P).toArray] u fun e w' => (∃ z1, e = .returned (.int .i64 z1)) ∧ TU u w' g o t N f (tpuR s R row P)) := Lib.hid (fun u g o t N f s v R row k => (rput_any k row P).mono fun _ _ q => ⟨⟨_, q.1⟩, q.2⟩)
  obtain ⟨Xp, hXp⟩ : ∃ Xp, Xp = pl P := ⟨_, rfl⟩
  rw [← hXp] at HSz HC HAdd HPut ⊢
  have KP := Lib.hid (Blk.new w 44 Xp.toArray)
  have HB : Hid (Below w.heap.size w (w.alloc (.cells Xp.toArray 44))) := Lib.hid (alloc_below _ _)
  have c0 := HC.out _ _ KP.out
  have i0 : (0 : Int) ≤ (i : Int) := by omega
  have i1 : (i : Int) < 32 := by omega
  have k0 : (0 : Int) ≤ (k : Int) := by omega
  have k1 : (k : Int) < 32 := by omega
  have HFr : Hid (Fr w (w.alloc (.cells Xp.toArray 44)) F ∧ ∀ b, foot8 g tv cv gv b → F b ∨ w.heap.size ≤ b) := Lib.hid ⟨⟨HB.out.os, HB.out.tape, HB.out.output, HB.out.size, fun b hb _ => HB.out.block b hb⟩, fun b hb => Or.inl ((HFF.out b).2 hb)⟩
  clear hXp hrow hk kk h hF hB ha hhi hrt
  go_enter Tryz.func61, Tryz.ntmps61
  go_wp2_with fail
  refine (HAt.out _ HB.out).mono ?_
  rintro e w1 ⟨rfl, rfl⟩
  have HMark : Hid (∀ (T' : Nat → TR) (tv' : Nat → Value) (u : World), T' = layTs S.T i id P → RS u g { S with T := T' } tv' cv gv → Fr w u F → (∀ b, foot8 g tv' cv gv b → F b ∨ w.heap.size ≤ b) → Calls Tryz.prog 64 #[.pointer (some ⟨g, 0, none⟩), .int .i64 id] u fun e w' => e = .returned (.tuple #[]) ∧ Chg RB w w' g F (layS S id P)) := Lib.hid (fun T' tv' u hT hr hf hn => by
    have h4 := rmark_any (w := u) (g := g) (F := foot8 g tv' cv gv) ⟨tv', cv, gv, hr, fun _ => Iff.rfl⟩ HB0.out.1 id
    refine h4.mono fun e w' k4 => ⟨k4.1, ?_⟩
    have h5 := Chg.trans hf hn k4.2
    rw [HLy.out, ← hT]
    exact h5)
  by_cases hik : i = k
  · subst hik
    have HT : Hid (layTs S.T i id P = upf S.T i (tpuR i (S.T i) row P)) := Lib.hid (by unfold layTs; rw [← HK.out, if_pos rfl, HRow.out])
    have HPu : Hid (Calls Tryz.prog 95 #[.pointer (some ⟨g, 513 + i * 2, none⟩), .int .i64 row, .agg Xp.toArray] (w.alloc (.cells Xp.toArray 44)).drew fun e w' => (∃ z1, e = .returned (.int .i64 z1)) ∧ TU (w.alloc (.cells Xp.toArray 44)).drew w' g (513 + i * 2) 89 580 (sF S tv cv gv) (tpuR i (S.T i) row P)) := Lib.hid (HPut.out _ _ _ _ _ _ _ _ _ _ ((HH.out.keep HB.out).drew.view i32 (HB0.out.2.2.1 i i32)))
    clear HAdd HPut
    go_upto_region 3 with fail
    refine wp_region_held_drew (S := fun w' => w'.rangeAt w.heap.size 0 Xp) (by kernel_rfl) (blk_whole (Blk.drew KP.out)) (fun hHeld => ?_)
    refine wpAnyH_take (i := 0) (v := ?_) rfl (by kernel_rfl) (by kernel_rfl) (by kernel_rfl) (fun _ _ _ h => h) (Or.inl ⟨by rfl, ?_⟩) hHeld ?_
    rotate_left
    · intro w hSw
      go_simp
      with_reducible rfl
    simp only [Act.put, List.getElem_toArray, List.getElem_cons_zero, List.setIfInBounds_toArray, List.set_cons_zero, List.set_cons_succ]
    refine wpAnyH_take (i := 1) (v := ?_) rfl (by kernel_rfl) (by kernel_rfl) (by kernel_rfl) (fun _ _ _ h => h) (Or.inl ⟨by rfl, ?_⟩) hHeld ?_
    rotate_left
    · intro w hSw
      go_simp
      with_reducible rfl
    simp only [Act.put, List.getElem_toArray, List.getElem_cons_zero, List.getElem_cons_succ, List.setIfInBounds_toArray, List.set_cons_zero, List.set_cons_succ]
    refine wpAnyH_take (i := 2) (v := ?_) rfl (by kernel_rfl) (by kernel_rfl) (by kernel_rfl) (fun _ _ _ h => h) (Or.inl ⟨by rfl, ?_⟩) hHeld ?_
    rotate_left
    · intro w hSw
      go_simp
      with_reducible rfl
    simp only [Act.put, List.getElem_toArray, List.getElem_cons_zero, List.getElem_cons_succ, List.setIfInBounds_toArray, List.set_cons_zero, List.set_cons_succ]
    refine wpAnyH_take (i := 3) (v := ?_) rfl (by kernel_rfl) (by kernel_rfl) (by kernel_rfl) (fun _ _ _ h => h) (Or.inl ⟨by rfl, ?_⟩) hHeld ?_
    rotate_left
    · intro w hSw
      go_simp
      with_reducible rfl
    simp only [Act.put, List.getElem_toArray, List.getElem_cons_zero, List.getElem_cons_succ, List.setIfInBounds_toArray, List.set_cons_zero, List.set_cons_succ]
    refine wpAnyH_take (i := 4) (v := ?_) rfl (by kernel_rfl) (by kernel_rfl) (by kernel_rfl) (fun _ _ _ h => h) (Or.inl ⟨by rfl, ?_⟩) hHeld ?_
    rotate_left
    · intro w hSw
      go_simp
      with_reducible rfl
    simp only [Act.put, List.getElem_toArray, List.getElem_cons_zero, List.getElem_cons_succ, List.setIfInBounds_toArray, List.set_cons_zero, List.set_cons_succ]
    refine wpAnyH_take (i := 5) (v := ?_) rfl (by kernel_rfl) (by kernel_rfl) (by kernel_rfl) (fun _ _ _ h => h) (Or.inl ⟨by rfl, ?_⟩) hHeld ?_
    rotate_left
    · intro w hSw
      go_simp
      with_reducible rfl
    simp only [Act.put, List.getElem_toArray, List.getElem_cons_zero, List.getElem_cons_succ, List.setIfInBounds_toArray, List.set_cons_zero, List.set_cons_succ]
    refine wpAnyH_take (i := 6) (v := _) rfl (by kernel_rfl) (by kernel_rfl) (by kernel_rfl) (fun _ _ _ h => h) (yieldsIf_load_mid (by rfl) _ _ rfl _ _ rfl _ _ (fun _ h => h) Tryz.underlying44 rfl HSz.out) hHeld ?_
    simp only [Act.put, List.getElem_toArray, List.getElem_cons_zero, List.getElem_cons_succ, List.setIfInBounds_toArray, List.set_cons_zero, List.set_cons_succ]
    refine wpAnyH_ready (rs := [7]) (by kernel_rfl) (by simp) ?_
    refine AllReadyH.cons rfl (fun K hK => ?_) AllReadyH.nil
    go_simp
    go_at_call 95
    refine (HPu.out).mono ?_
    rintro e w3 ⟨⟨z1, rfl⟩, tu⟩
    have KN := Lib.hid (gblk8 tu.grown (Blk.drew KP.out) (by omega))
    obtain ⟨tv3, rs3, fr3, new3⟩ := (HH.out.keep HB.out).drew.next HFr.out.1.drew HFr.out.2 i32 tu
    have HR3 := Lib.hid rs3
    have HF3 := Lib.hid (And.intro fr3 new3)
    clear tu rs3 fr3 new3
    go_wp2_with fail
    refine hK.out _ _ (blk_whole KN.out) (fun hHeld => ?_)
    clear hK K
    refine wpAnyH_done (by kernel_rfl) ?_ _
    clear hHeld KN HPu c0
    have hg3 : g < w3.heap.size := HR3.out.row.lt
    go_wp2_with fail
    refine (HMark.out _ tv3 w3 HT.out.symm HR3.out HF3.out.1 HF3.out.2).mono ?_
    rintro e w4 ⟨rfl, ch⟩
    have HCh := Lib.hid ch
    clear ch HMark HR3 HF3
    go_wp2
    go_end0
    exact ⟨rfl, HCh.out⟩
  · have hik' : ((i : Int) == (k : Int)) = false := by rw [beq_eq_false_iff_ne]; omega
    have HT : Hid (layTs S.T i id P = upf (upf S.T i (tcuR (S.T i) row)) k (tadR k (upf S.T i (tcuR (S.T i) row) k) id P)) := Lib.hid (by unfold layTs; rw [← HK.out, if_neg hik, ← HRow.out, ← HKK.out])
    have HCu : Hid (Calls Tryz.prog 58 #[.pointer (some ⟨g, 513 + i * 2, none⟩), .int .i64 row] (w.alloc (.cells Xp.toArray 44)) fun e w' => (∃ z1 z2, e = .returned (.tuple #[.int .i64 z1, .int .i64 z2])) ∧ TU (w.alloc (.cells Xp.toArray 44)) w' g (513 + i * 2) 89 580 (sF S tv cv gv) (tcuR (S.T i) row)) := Lib.hid ((rcut_any ((HH.out.keep HB.out).view i32 (HB0.out.2.2.1 i i32)) row).mono fun _ _ q => ⟨⟨_, _, q.1⟩, q.2⟩)
    have HL1 : Hid ((upf S.T i (tcuR (S.T i) row) k).length ≤ 1000) := Lib.hid (by unfold upf; rw [if_neg (fun e => hik e.symm)]; exact HB0.out.2.2.1 k k32)
    clear HPut
    go_wp2_with fail
    refine HCu.out.mono ?_
    rintro e w2 ⟨⟨z1, z2, rfl⟩, tu⟩
    replace KP := Lib.hid (gblk8 tu.grown KP.out (by omega))
    obtain ⟨tv2, rs2, fr2, new2⟩ := (HH.out.keep HB.out).next HFr.out.1 HFr.out.2 i32 tu
    have HR2 := Lib.hid rs2
    have HF2 := Lib.hid (And.intro fr2 new2)
    have hg2 : g < w2.heap.size := rs2.row.lt
    clear tu rs2 fr2 new2 HCu c0
    have HAd : Hid (Calls Tryz.prog 67 #[.pointer (some ⟨g, 513 + k * 2, none⟩), .int .i64 id, .agg Xp.toArray] w2.drew fun e w' => (∃ z1 z2, e = .returned (.tuple #[.int .i64 z1, .int .i64 z2])) ∧ TU w2.drew w' g (513 + k * 2) 89 580 (sF { S with T := upf S.T i (tcuR (S.T i) row) } tv2 cv gv) (tadR k (upf S.T i (tcuR (S.T i) row) k) id P)) := Lib.hid (HAdd.out _ _ _ _ _ _ _ _ _ _ (HR2.out.drew.view k32 HL1.out))
    clear HAdd
    go_upto_region 5 with fail
    refine wp_region_held_drew (S := fun w' => w'.cell? ⟨w.heap.size, 0, none⟩ = some (.int .i64 k) ∧ w'.rangeAt w.heap.size 0 Xp) (by kernel_rfl) (⟨HC.out _ _ (Blk.drew KP.out), blk_whole (Blk.drew KP.out)⟩) (fun hHeld => ?_)
    refine wpAnyH_take (i := 0) (v := ?_) rfl (by kernel_rfl) (by kernel_rfl) (by kernel_rfl) (fun _ _ _ h => h) (Or.inl ⟨by rfl, ?_⟩) hHeld ?_
    rotate_left
    · intro w hSw
      obtain ⟨s1, s2⟩ := hSw
      go_simp
      with_reducible rfl
    simp only [Act.put, List.getElem_toArray, List.getElem_cons_zero, List.setIfInBounds_toArray, List.set_cons_zero, List.set_cons_succ]
    refine wpAnyH_take (i := 1) (v := ?_) rfl (by kernel_rfl) (by kernel_rfl) (by kernel_rfl) (fun _ _ _ h => h) (Or.inl ⟨by rfl, ?_⟩) hHeld ?_
    rotate_left
    · intro w hSw
      obtain ⟨s1, s2⟩ := hSw
      go_simp
      with_reducible rfl
    simp only [Act.put, List.getElem_toArray, List.getElem_cons_zero, List.getElem_cons_succ, List.setIfInBounds_toArray, List.set_cons_zero, List.set_cons_succ]
    refine wpAnyH_take (i := 2) (v := ?_) rfl (by kernel_rfl) (by kernel_rfl) (by kernel_rfl) (fun _ _ _ h => h) (Or.inl ⟨by rfl, ?_⟩) hHeld ?_
    rotate_left
    · intro w hSw
      obtain ⟨s1, s2⟩ := hSw
      go_simp
      with_reducible rfl
    simp only [Act.put, List.getElem_toArray, List.getElem_cons_zero, List.getElem_cons_succ, List.setIfInBounds_toArray, List.set_cons_zero, List.set_cons_succ]
    refine wpAnyH_take (i := 3) (v := ?_) rfl (by kernel_rfl) (by kernel_rfl) (by kernel_rfl) (fun _ _ _ h => h) (Or.inl ⟨by rfl, ?_⟩) hHeld ?_
    rotate_left
    · intro w hSw
      obtain ⟨s1, s2⟩ := hSw
      go_simp
      with_reducible rfl
    simp only [Act.put, List.getElem_toArray, List.getElem_cons_zero, List.getElem_cons_succ, List.setIfInBounds_toArray, List.set_cons_zero, List.set_cons_succ]
    refine wpAnyH_take (i := 4) (v := ?_) rfl (by kernel_rfl) (by kernel_rfl) (by kernel_rfl) (fun _ _ _ h => h) (Or.inl ⟨by rfl, ?_⟩) hHeld ?_
    rotate_left
    · intro w hSw
      obtain ⟨s1, s2⟩ := hSw
      go_simp
      with_reducible rfl
    simp only [Act.put, List.getElem_toArray, List.getElem_cons_zero, List.getElem_cons_succ, List.setIfInBounds_toArray, List.set_cons_zero, List.set_cons_succ]
    refine wpAnyH_take (i := 5) (v := ?_) rfl (by kernel_rfl) (by kernel_rfl) (by kernel_rfl) (fun _ _ _ h => h) (Or.inl ⟨by rfl, ?_⟩) hHeld ?_
    rotate_left
    · intro w hSw
      obtain ⟨s1, s2⟩ := hSw
      go_simp
      with_reducible rfl
    simp only [Act.put, List.getElem_toArray, List.getElem_cons_zero, List.getElem_cons_succ, List.setIfInBounds_toArray, List.set_cons_zero, List.set_cons_succ]
    refine wpAnyH_take (i := 6) (v := ?_) rfl (by kernel_rfl) (by kernel_rfl) (by kernel_rfl) (fun _ _ _ h => h) (Or.inl ⟨by rfl, ?_⟩) hHeld ?_
    rotate_left
    · intro w hSw
      obtain ⟨s1, s2⟩ := hSw
      go_simp
      with_reducible rfl
    simp only [Act.put, List.getElem_toArray, List.getElem_cons_zero, List.getElem_cons_succ, List.setIfInBounds_toArray, List.set_cons_zero, List.set_cons_succ]
    refine wpAnyH_take (i := 7) (v := _) rfl (by kernel_rfl) (by kernel_rfl) (by kernel_rfl) (fun _ _ _ h => h) (yieldsIf_load_mid (by rfl) _ _ rfl _ _ rfl _ _ (fun _ h => h.2) Tryz.underlying44 rfl HSz.out) hHeld ?_
    simp only [Act.put, List.getElem_toArray, List.getElem_cons_zero, List.getElem_cons_succ, List.setIfInBounds_toArray, List.set_cons_zero, List.set_cons_succ]
    refine wpAnyH_ready (rs := [8]) (by kernel_rfl) (by simp) ?_
    refine AllReadyH.cons rfl (fun K hK => ?_) AllReadyH.nil
    go_simp
    go_at_call 67
    refine (HAd.out).mono ?_
    rintro e w3 ⟨⟨z3, z4, rfl⟩, tu⟩
    have KN := Lib.hid (gblk8 tu.grown (Blk.drew KP.out) (by omega))
    obtain ⟨tv3, rs3, fr3, new3⟩ := HR2.out.drew.next HF2.out.1.drew HF2.out.2 k32 tu
    have HR3 := Lib.hid rs3
    have HF3 := Lib.hid (And.intro fr3 new3)
    clear tu rs3 fr3 new3
    go_wp2_with fail
    refine hK.out _ _ (⟨HC.out _ _ KN.out, blk_whole KN.out⟩) (fun hHeld => ?_)
    clear hK K
    refine wpAnyH_done (by kernel_rfl) ?_ _
    clear hHeld KN HAd
    have hg3 : g < w3.heap.size := HR3.out.row.lt
    go_wp2_with fail
    refine (HMark.out _ tv3 w3 HT.out.symm HR3.out HF3.out.1 HF3.out.2).mono ?_
    rintro e w4 ⟨rfl, ch⟩
    have HCh := Lib.hid ch
    clear ch HMark HR3 HF3
    go_wp2
    go_end0
    exact ⟨rfl, HCh.out⟩

end Go.Proofs.YtcpgkkphibhdfaaGreat
