/-
  The reference's store: what its lay of layer 8 answers.
-/
import Derived.Test.YtcpgkkphibhdfaaGreatStoO
namespace Go.Proofs.YtcpgkkphibhdfaaGreat
open Go.RowKit

theorem Fr.two {a b d : World} {F F' : Nat → Prop} (h : Fr a b F) (h' : Fr b d F') (hn : ∀ x, F' x → F x ∨ a.heap.size ≤ x) : Fr a d F :=
  ⟨h'.1.trans h.1, h'.2.1.trans h.2.1, h'.2.2.1.trans h.2.2.1, Nat.le_trans h.2.2.2.1 h'.2.2.2.1, fun x hx hf => (h'.2.2.2.2 x (Nat.lt_of_lt_of_le hx h.2.2.2.1) (fun c => (hn x c).elim (fun d => hf d) (fun d => by omega))).trans (h.2.2.2.2 x hx hf)⟩
/-- one table more that is another one -/
theorem RS.next {w w1 w2 : World} {g : Nat} {F : Nat → Prop} {S : St} {tv : Nat → Value} {cv gv : Value} (hs : RS w1 g S tv cv gv) (hf : Fr w w1 F) (hn : ∀ b, foot8 g tv cv gv b → F b ∨ w.heap.size ≤ b) {i : Nat} (hi : i < 32) {R : TR} (hu : TU w1 w2 g (513 + i * 2) 89 580 (sF S tv cv gv) R) :
    ∃ tv', RS w2 g { S with T := upf S.T i R } tv' cv gv ∧ Fr w w2 F ∧ ∀ b, foot8 g tv' cv gv b → F b ∨ w.heap.size ≤ b := by
  obtain ⟨tv', h1, h2, h3⟩ := hs.table hi hu
  refine ⟨tv', h1, hf.two h2 hn, fun b hb => ?_⟩
  rcases h3 b hb with c | c
  · exact hn b c
  · exact Or.inr (Nat.le_trans hf.2.2.2.1 c)
theorem RS.drew {w : World} {g : Nat} {S : St} {tv : Nat → Value} {cv gv : Value} (h : RS w g S tv cv gv) : RS w.drew g S tv cv gv := h.same (fun _ _ => rfl)
theorem Fr.drew {w w' : World} {F : Nat → Prop} (h : Fr w w' F) : Fr w w'.drew F := h

set_option maxHeartbeats 8000000 in
set_option maxRecDepth 100000 in
theorem rlay8_any {w : World} {g : Nat} {F : Nat → Prop} {S : St} (h0 : RB w g F S) (hB : Bd S 1000) (id : Int) {i : Nat} (ha : atS S id = some i) (P : PT) (hrt : rightT P = true) :
    Calls Tryz.prog 61 #[.pointer (some ⟨g, 0, none⟩), .int .i64 id, .agg (pl P).toArray] w fun e w' => e = .returned (.tuple #[]) ∧ Chg RB w w' g F (layS S id P) := by
  obtain ⟨tv, cv, gv, h, hF⟩ := h0
  have HH := Lib.hid h
  have HFF := Lib.hid hF
  have HB0 := Lib.hid hB
  have hg := h.row.lt
  obtain ⟨i32, hhi⟩ := at_some ha
  obtain ⟨row, hrow⟩ : ∃ row, row = findI (S.T i) id := ⟨_, rfl⟩
  have HRow := Lib.hid hrow
  have HAt : Hid (∀ u, Below w.heap.size w u → Calls Tryz.prog 57 #[.pointer (some ⟨g, 0, none⟩), .int .i64 id] u fun e w' => e = .returned (.tuple #[.int .i64 (i : Int), .int .i64 row]) ∧ u = w') := Lib.hid (fun u k => (rat_any (h.keep k) hB.2.2.1 id).mono fun _ _ q => ⟨by rw [q.1]; unfold atI atR; rw [ha, hrow], q.2⟩)
  have HLy : Hid (layS S id P = { S with T := layTs S.T i id P, ch := markL S.ch id S.now }) := Lib.hid (by unfold layS; rw [ha])
  obtain ⟨k32, kk, _, _⟩ := right_has hrt
  obtain ⟨k, hk⟩ : ∃ k, k = P.1.toNat := ⟨_, rfl⟩
  rw [← hk] at k32 kk
  have HK := Lib.hid hk
  have HKK := Lib.hid kk
  have HSz := Lib.hid (pl_size P)
  have HC : Hid (∀ u g, Blk u g 44 (pl P).toArray → u.cell? ⟨g, 0, none⟩ = some (.int .i64 (k : Int))) := Lib.hid (fun u g q => by rw [kk]; exact q.cell 0)
  have HAdd : Hid (∀ (u : World) (g o : Nat) (t : TypeId) (N : Nat) (f : Nat → Value) (s : Int) (v : Value) (R : TR) (id : Int), TV u g o t N f s v R → Calls Tryz.prog 67 #[.pointer (some ⟨g, o, none⟩), .int .i64 id, .agg (pl P).toArray] u fun e w' => (∃ z1 z2, e = .returned (.tuple #[.int .i64 z1, .int .i64 z2])) ∧ TU u w' g o t N f (tadR s R id P)) := Lib.hid (fun u g o t N f s v R id k => (radd_any k id P).mono fun _ _ q => ⟨⟨_, _, q.1⟩, q.2⟩)
  have HPut : Hid (∀ (u : World) (g o : Nat) (t : TypeId) (N : Nat) (f : Nat → Value) (s : Int) (v : Value) (R : TR) (row : Int), TV u g o t N f s v R → Calls Tryz.prog 95 #[.pointer (some ⟨g, o, none⟩), .int .i64 row, .agg (pl P).toArray] u fun e w' => (∃ z1, e = .returned (.int .i64 z1)) ∧ TU u w' g o t N f (tpuR s R row P)) := Lib.hid (fun u g o t N f s v R row k => (rput_any k row P).mono fun _ _ q => ⟨⟨_, q.1⟩, q.2⟩)
  obtain ⟨Xp, hXp⟩ : ∃ Xp, Xp = pl P := ⟨_, rfl⟩
  rw [← hXp] at HSz HC HAdd HPut ⊢
  have KP := Lib.hid (Blk.new w 44 Xp.toArray)
  have HB : Hid (Below w.heap.size w (w.alloc (.cells Xp.toArray 44))) := Lib.hid (alloc_below _ _)
  have c0 := HC.out _ _ KP.out
  have i0 : (0 : Int) ≤ (i : Int) := by omega
  have i1 : (i : Int) < 32 := by omega
  have k0 : (0 : Int) ≤ (k : Int) := by omega
  have k1 : (k : Int) < 32 := by omega
  have HFr : Hid (Fr w (w.alloc (.cells Xp.toArray 44)) F ∧ ∀ b, foot8 g tv cv gv b → F b ∨ w.heap.size ≤ b) := Lib.hid ⟨⟨HB.out.os, HB.out.tape, HB.out.output, HB.out.size, fun b hb _ => HB.out.block b hb⟩, fun b hb => Or.inl ((HFF.out b).2 hb)⟩
  clear hXp hrow hk kk h hF hB ha hhi hrt
  go_enter Tryz.func61, Tryz.ntmps61
  go_wp2_with fail
  refine (HAt.out _ HB.out).mono ?_
  rintro e w1 ⟨rfl, rfl⟩
  have HMark : Hid (∀ (T' : Nat → TR) (tv' : Nat → Value) (u : World), T' = layTs S.T i id P → RS u g { S with T := T' } tv' cv gv → Fr w u F → (∀ b, foot8 g tv' cv gv b → F b ∨ w.heap.size ≤ b) → Calls Tryz.prog 64 #[.pointer (some ⟨g, 0, none⟩), .int .i64 id] u fun e w' => e = .returned (.tuple #[]) ∧ Chg RB w w' g F (layS S id P)) := Lib.hid (fun T' tv' u hT hr hf hn => by
    have h4 := rmark_any (w := u) (g := g) (F := foot8 g tv' cv gv) ⟨tv', cv, gv, hr, fun _ => Iff.rfl⟩ HB0.out.1 id
    refine h4.mono fun e w' k4 => ⟨k4.1, ?_⟩
    have h5 := Chg.trans hf hn k4.2
    rw [HLy.out, ← hT]
    exact h5)
  by_cases hik : i = k
  · subst hik
    have HT : Hid (layTs S.T i id P = upf S.T i (tpuR i (S.T i) row P)) := Lib.hid (by unfold layTs; rw [← HK.out, if_pos rfl, HRow.out])
    have HPu : Hid (Calls Tryz.prog 95 #[.pointer (some ⟨g, 513 + i * 2, none⟩), .int .i64 row, .agg Xp.toArray] (w.alloc (.cells Xp.toArray 44)).drew fun e w' => (∃ z1, e = .returned (.int .i64 z1)) ∧ TU (w.alloc (.cells Xp.toArray 44)).drew w' g (513 + i * 2) 89 580 (sF S tv cv gv) (tpuR i (S.T i) row P)) := Lib.hid (HPut.out _ _ _ _ _ _ _ _ _ _ ((HH.out.keep HB.out).drew.view i32 (HB0.out.2.2.1 i i32)))
    clear HAdd HPut
    go_upto_region 3 with fail
    refine wp_region_held_drew (S := fun w' => w'.rangeAt w.heap.size 0 Xp) (by kernel_rfl) (blk_whole (Blk.drew KP.out)) (fun hHeld => ?_)
    refine wpAnyH_take (i := 0) (v := ?_) rfl (by kernel_rfl) (by kernel_rfl) (by kernel_rfl) (fun _ _ _ h => h) (Or.inl ⟨by rfl, ?_⟩) hHeld ?_
    rotate_left
    · intro w hSw
      go_simp
      with_reducible rfl
    simp only [Act.put, List.getElem_toArray, List.getElem_cons_zero, List.setIfInBounds_toArray, List.set_cons_zero, List.set_cons_succ]
    refine wpAnyH_take (i := 1) (v := ?_) rfl (by kernel_rfl) (by kernel_rfl) (by kernel_rfl) (fun _ _ _ h => h) (Or.inl ⟨by rfl, ?_⟩) hHeld ?_
    rotate_left
    · intro w hSw
      go_simp
      with_reducible rfl
    simp only [Act.put, List.getElem_toArray, List.getElem_cons_zero, List.getElem_cons_succ, List.setIfInBounds_toArray, List.set_cons_zero, List.set_cons_succ]
    refine wpAnyH_take (i := 2) (v := ?_) rfl (by kernel_rfl) (by kernel_rfl) (by kernel_rfl) (fun _ _ _ h => h) (Or.inl ⟨by rfl, ?_⟩) hHeld ?_
    rotate_left
    · intro w hSw
      go_simp
      with_reducible rfl
    simp only [Act.put, List.getElem_toArray, List.getElem_cons_zero, List.getElem_cons_succ, List.setIfInBounds_toArray, List.set_cons_zero, List.set_cons_succ]
    refine wpAnyH_take (i := 3) (v := ?_) rfl (by kernel_rfl) (by kernel_rfl) (by kernel_rfl) (fun _ _ _ h => h) (Or.inl ⟨by rfl, ?_⟩) hHeld ?_
    rotate_left
    · intro w hSw
      go_simp
      with_reducible rfl
    simp only [Act.put, List.getElem_toArray, List.getElem_cons_zero, List.getElem_cons_succ, List.setIfInBounds_toArray, List.set_cons_zero, List.set_cons_succ]
    refine wpAnyH_take (i := 4) (v := ?_) rfl (by kernel_rfl) (by kernel_rfl) (by kernel_rfl) (fun _ _ _ h => h) (Or.inl ⟨by rfl, ?_⟩) hHeld ?_
    rotate_left
    · intro w hSw
      go_simp
      with_reducible rfl
    simp only [Act.put, List.getElem_toArray, List.getElem_cons_zero, List.getElem_cons_succ, List.setIfInBounds_toArray, List.set_cons_zero, List.set_cons_succ]
    refine wpAnyH_take (i := 5) (v := ?_) rfl (by kernel_rfl) (by kernel_rfl) (by kernel_rfl) (fun _ _ _ h => h) (Or.inl ⟨by rfl, ?_⟩) hHeld ?_
    rotate_left
    · intro w hSw
      go_simp
      with_reducible rfl
    simp only [Act.put, List.getElem_toArray, List.getElem_cons_zero, List.getElem_cons_succ, List.setIfInBounds_toArray, List.set_cons_zero, List.set_cons_succ]
    refine wpAnyH_take (i := 6) (v := _) rfl (by kernel_rfl) (by kernel_rfl) (by kernel_rfl) (fun _ _ _ h => h) (yieldsIf_load_mid (by rfl) _ _ rfl _ _ rfl _ _ (fun _ h => h) Tryz.underlying44 rfl HSz.out) hHeld ?_
    simp only [Act.put, List.getElem_toArray, List.getElem_cons_zero, List.getElem_cons_succ, List.setIfInBounds_toArray, List.set_cons_zero, List.set_cons_succ]
    refine wpAnyH_ready (rs := [7]) (by kernel_rfl) (by simp) ?_
    refine AllReadyH.cons rfl (fun K hK => ?_) AllReadyH.nil
    go_simp
    go_at_call 95
    refine (HPu.out).mono ?_
    rintro e w3 ⟨⟨z1, rfl⟩, tu⟩
    have KN := Lib.hid (gblk8 tu.grown (Blk.drew KP.out) (by omega))
    obtain ⟨tv3, rs3, fr3, new3⟩ := (HH.out.keep HB.out).drew.next HFr.out.1.drew HFr.out.2 i32 tu
    have HR3 := Lib.hid rs3
    have HF3 := Lib.hid (And.intro fr3 new3)
    clear tu rs3 fr3 new3
    go_wp2_with fail
    refine hK.out _ _ (blk_whole KN.out) (fun hHeld => ?_)
    clear hK K
    refine wpAnyH_done (by kernel_rfl) ?_ _
    clear hHeld KN HPu c0
    have hg3 : g < w3.heap.size := HR3.out.row.lt
    go_wp2_with fail
    refine (HMark.out _ tv3 w3 HT.out.symm HR3.out HF3.out.1 HF3.out.2).mono ?_
    rintro e w4 ⟨rfl, ch⟩
    have HCh := Lib.hid ch
    clear ch HMark HR3 HF3
    go_wp2
    go_end0
    exact ⟨rfl, HCh.out⟩
  · have hik' : ((i : Int) == (k : Int)) = false := by rw [beq_eq_false_iff_ne]; omega
    have HT : Hid (layTs S.T i id P = upf (upf S.T i (tcuR (S.T i) row)) k (tadR k (upf S.T i (tcuR (S.T i) row) k) id P)) := Lib.hid (by unfold layTs; rw [← HK.out, if_neg hik, ← HRow.out, ← HKK.out])
    have HCu : Hid (Calls Tryz.prog 58 #[.pointer (some ⟨g, 513 + i * 2, none⟩), .int .i64 row] (w.alloc (.cells Xp.toArray 44)) fun e w' => (∃ z1 z2, e = .returned (.tuple #[.int .i64 z1, .int .i64 z2])) ∧ TU (w.alloc (.cells Xp.toArray 44)) w' g (513 + i * 2) 89 580 (sF S tv cv gv) (tcuR (S.T i) row)) := Lib.hid ((rcut_any ((HH.out.keep HB.out).view i32 (HB0.out.2.2.1 i i32)) row).mono fun _ _ q => ⟨⟨_, _, q.1⟩, q.2⟩)
    have HL1 : Hid ((upf S.T i (tcuR (S.T i) row) k).length ≤ 1000) := Lib.hid (by unfold upf; rw [if_neg (fun e => hik e.symm)]; exact HB0.out.2.2.1 k k32)
    clear HPut
    go_wp2_with fail
    refine HCu.out.mono ?_
    rintro e w2 ⟨⟨z1, z2, rfl⟩, tu⟩
    replace KP := Lib.hid (gblk8 tu.grown KP.out (by omega))
    obtain ⟨tv2, rs2, fr2, new2⟩ := (HH.out.keep HB.out).next HFr.out.1 HFr.out.2 i32 tu
    have HR2 := Lib.hid rs2
    have HF2 := Lib.hid (And.intro fr2 new2)
    have hg2 : g < w2.heap.size := rs2.row.lt
    clear tu rs2 fr2 new2 HCu c0
    have HAd : Hid (Calls Tryz.prog 67 #[.pointer (some ⟨g, 513 + k * 2, none⟩), .int .i64 id, .agg Xp.toArray] w2.drew fun e w' => (∃ z1 z2, e = .returned (.tuple #[.int .i64 z1, .int .i64 z2])) ∧ TU w2.drew w' g (513 + k * 2) 89 580 (sF { S with T := upf S.T i (tcuR (S.T i) row) } tv2 cv gv) (tadR k (upf S.T i (tcuR (S.T i) row) k) id P)) := Lib.hid (HAdd.out _ _ _ _ _ _ _ _ _ _ (HR2.out.drew.view k32 HL1.out))
    clear HAdd
    go_upto_region 5 with fail
    refine wp_region_held_drew (S := fun w' => w'.cell? ⟨w.heap.size, 0, none⟩ = some (.int .i64 k) ∧ w'.rangeAt w.heap.size 0 Xp) (by kernel_rfl) (⟨HC.out _ _ (Blk.drew KP.out), blk_whole (Blk.drew KP.out)⟩) (fun hHeld => ?_)
    refine wpAnyH_take (i := 0) (v := ?_) rfl (by kernel_rfl) (by kernel_rfl) (by kernel_rfl) (fun _ _ _ h => h) (Or.inl ⟨by rfl, ?_⟩) hHeld ?_
    rotate_left
    · intro w hSw
      obtain ⟨s1, s2⟩ := hSw
      go_simp
      with_reducible rfl
    simp only [Act.put, List.getElem_toArray, List.getElem_cons_zero, List.setIfInBounds_toArray, List.set_cons_zero, List.set_cons_succ]
    refine wpAnyH_take (i := 1) (v := ?_) rfl (by kernel_rfl) (by kernel_rfl) (by kernel_rfl) (fun _ _ _ h => h) (Or.inl ⟨by rfl, ?_⟩) hHeld ?_
    rotate_left
    · intro w hSw
      obtain ⟨s1, s2⟩ := hSw
      go_simp
      with_reducible rfl
    simp only [Act.put, List.getElem_toArray, List.getElem_cons_zero, List.getElem_cons_succ, List.setIfInBounds_toArray, List.set_cons_zero, List.set_cons_succ]
    refine wpAnyH_take (i := 2) (v := ?_) rfl (by kernel_rfl) (by kernel_rfl) (by kernel_rfl) (fun _ _ _ h => h) (Or.inl ⟨by rfl, ?_⟩) hHeld ?_
    rotate_left
    · intro w hSw
      obtain ⟨s1, s2⟩ := hSw
      go_simp
      with_reducible rfl
    simp only [Act.put, List.getElem_toArray, List.getElem_cons_zero, List.getElem_cons_succ, List.setIfInBounds_toArray, List.set_cons_zero, List.set_cons_succ]
    refine wpAnyH_take (i := 3) (v := ?_) rfl (by kernel_rfl) (by kernel_rfl) (by kernel_rfl) (fun _ _ _ h => h) (Or.inl ⟨by rfl, ?_⟩) hHeld ?_
    rotate_left
    · intro w hSw
      obtain ⟨s1, s2⟩ := hSw
      go_simp
      with_reducible rfl
    simp only [Act.put, List.getElem_toArray, List.getElem_cons_zero, List.getElem_cons_succ, List.setIfInBounds_toArray, List.set_cons_zero, List.set_cons_succ]
    refine wpAnyH_take (i := 4) (v := ?_) rfl (by kernel_rfl) (by kernel_rfl) (by kernel_rfl) (fun _ _ _ h => h) (Or.inl ⟨by rfl, ?_⟩) hHeld ?_
    rotate_left
    · intro w hSw
      obtain ⟨s1, s2⟩ := hSw
      go_simp
      with_reducible rfl
    simp only [Act.put, List.getElem_toArray, List.getElem_cons_zero, List.getElem_cons_succ, List.setIfInBounds_toArray, List.set_cons_zero, List.set_cons_succ]
    refine wpAnyH_take (i := 5) (v := ?_) rfl (by kernel_rfl) (by kernel_rfl) (by kernel_rfl) (fun _ _ _ h => h) (Or.inl ⟨by rfl, ?_⟩) hHeld ?_
    rotate_left
    · intro w hSw
      obtain ⟨s1, s2⟩ := hSw
      go_simp
      with_reducible rfl
    simp only [Act.put, List.getElem_toArray, List.getElem_cons_zero, List.getElem_cons_succ, List.setIfInBounds_toArray, List.set_cons_zero, List.set_cons_succ]
    refine wpAnyH_take (i := 6) (v := ?_) rfl (by kernel_rfl) (by kernel_rfl) (by kernel_rfl) (fun _ _ _ h => h) (Or.inl ⟨by rfl, ?_⟩) hHeld ?_
    rotate_left
    · intro w hSw
      obtain ⟨s1, s2⟩ := hSw
      go_simp
      with_reducible rfl
    simp only [Act.put, List.getElem_toArray, List.getElem_cons_zero, List.getElem_cons_succ, List.setIfInBounds_toArray, List.set_cons_zero, List.set_cons_succ]
    refine wpAnyH_take (i := 7) (v := _) rfl (by kernel_rfl) (by kernel_rfl) (by kernel_rfl) (fun _ _ _ h => h) (yieldsIf_load_mid (by rfl) _ _ rfl _ _ rfl _ _ (fun _ h => h.2) Tryz.underlying44 rfl HSz.out) hHeld ?_
    simp only [Act.put, List.getElem_toArray, List.getElem_cons_zero, List.getElem_cons_succ, List.setIfInBounds_toArray, List.set_cons_zero, List.set_cons_succ]
    refine wpAnyH_ready (rs := [8]) (by kernel_rfl) (by simp) ?_
    refine AllReadyH.cons rfl (fun K hK => ?_) AllReadyH.nil
    go_simp
    go_at_call 67
    refine (HAd.out).mono ?_
    rintro e w3 ⟨⟨z3, z4, rfl⟩, tu⟩
    have KN := Lib.hid (gblk8 tu.grown (Blk.drew KP.out) (by omega))
    obtain ⟨tv3, rs3, fr3, new3⟩ := HR2.out.drew.next HF2.out.1.drew HF2.out.2 k32 tu
    have HR3 := Lib.hid rs3
    have HF3 := Lib.hid (And.intro fr3 new3)
    clear tu rs3 fr3 new3
    go_wp2_with fail
    refine hK.out _ _ (⟨HC.out _ _ KN.out, blk_whole KN.out⟩) (fun hHeld => ?_)
    clear hK K
    refine wpAnyH_done (by kernel_rfl) ?_ _
    clear hHeld KN HAd
    have hg3 : g < w3.heap.size := HR3.out.row.lt
    go_wp2_with fail
    refine (HMark.out _ tv3 w3 HT.out.symm HR3.out HF3.out.1 HF3.out.2).mono ?_
    rintro e w4 ⟨rfl, ch⟩
    have HCh := Lib.hid ch
    clear ch HMark HR3 HF3
    go_wp2
    go_end0
    exact ⟨rfl, HCh.out⟩

end Go.Proofs.YtcpgkkphibhdfaaGreat
