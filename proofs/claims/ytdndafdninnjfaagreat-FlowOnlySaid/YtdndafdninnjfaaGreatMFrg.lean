/-
  2 texts in one file, each with its own heading.
-/
import Derived.Test.YtdndafdninnjfaaGreatMFre
/-
  The live question of the laws of layer 10 is answered true, for any package that answers as the bundle says.
-/
namespace Go.Proofs.YtdndafdninnjfaaGreat
open Go.RowKit

section
variable {FB : World → Nat → (Nat → Prop) → FD → Prop}
/-- a list apart from an object's memory stays -/
theorem row_apart {u u' : World} {F F' : Nat → Prop} {a : Option Addr} {n : Nat} {xs : List Int} (hr : Row u a n xs) (ha : Aw F a n) (hk : ∀ b, b < u.heap.size → ¬ F b → u'.heap[b]? = u.heap[b]? ∧ ¬ F' b) : Row u' a n xs ∧ Aw F' a n := by
  have hin : ∀ b off, a = some ⟨b, off, none⟩ → 0 < n → b < u.heap.size := fun b off e h0 => by
    rcases hr.2.2 with c | ⟨b', off', e', hc⟩
    · omega
    · rw [e] at e'
      injection e' with e'
      injection e' with e1
      rw [e1]
      exact World.block_lt_of_cell? _ _ (hc 0 h0)
  rcases ha with ha | ha
  · refine ⟨⟨hr.1, hr.2.1, Or.inl ha⟩, Or.inl ha⟩
  · by_cases z : n = 0
    · exact ⟨⟨hr.1, hr.2.1, Or.inl z⟩, Or.inl z⟩
    · rcases hr.2.2 with c | ⟨b, off, e, hc⟩
      · exact absurd c z
      · have hb := hin b off e (by omega)
        obtain ⟨k1, k2⟩ := hk b hb (ha _ e)
        refine ⟨⟨hr.1, hr.2.1, Or.inr ⟨b, off, e, fun i hi => ?_⟩⟩, Or.inr (fun ad e' hf => ?_)⟩
        · have := hc i hi
          rw [← this]
          exact World.cell?_of_block k1
        · rw [e] at e'
          injection e' with e'
          rw [← e'] at hf
          exact k2 hf
theorem rowx_one {w : World} {g : Nat} {t : TypeId} {n : Nd} (h : Blk w g t (cNd n).toArray) : NRow w (some ⟨g, 0, none⟩) 1 [n] := rowx_lit (X := [n]) (by rw [List.flatMap_cons, List.flatMap_nil, List.append_nil]; exact h) (by simp)
theorem cfs_cells {W : World} {gg : Nat} {s : Stt} (k : Blk W gg 48 (cFs s).toArray) : W.cell? ⟨gg, 12, none⟩ = some (.bool s.sh) ∧ W.cell? ⟨gg, 3, none⟩ = some (.int .i64 (s.wo 3)) := ⟨k.cell 12, k.cell 3⟩
theorem wpl_act {ops : Array Oper} {rest : List Oper} {a A : Go.Act} {w : World} {Q : Exit → Go.Act → World → Prop} (h : a = A) (k : wpList Tryz.prog ops Q rest A w) : wpList Tryz.prog ops Q rest a w := h ▸ k
set_option maxHeartbeats 4000000 in
set_option maxRecDepth 100000 in
theorem alive10_any (hC : FWC FB) (w : World) :
    Calls Tryz.prog 5 #[] w fun e w' => e = .returned (.bool true) ∧ Below w.heap.size w w' := by
  have HN := Lib.hid (hC.new w)
  have HMv := Lib.hid mvA_move
  have HP1 : Hid (∀ u g F gg, FB u g F FD0 → Blk u gg 59 (lA1.flatMap cNd).toArray → Calls Tryz.prog 15 #[.pointer (some ⟨g, 0, none⟩), .slice (some ⟨gg, 0, none⟩) 3 3] u fun e w' => e = .returned (.int .i64 0) ∧ ChX FB u w' g F dA1) := Lib.hid (fun u g F gg h k => by
    have := hC.put u g F FD0 _ 3 3 lA1 DOk.zero (by decide) h (by omega) (rowx_lit k (by decide)) rgA1
    rw [eA.1] at this
    exact this)
  have HR1 : Hid (∀ u g F, FB u g F dA1 → Calls Tryz.prog 8 #[.pointer (some ⟨g, 0, none⟩)] u fun e w' => ∃ a cap, e = .returned (.tuple #[.slice a 3 cap, .int .i64 0]) ∧ ChX FB u w' g F dA2 ∧ Row w' a 3 [7, 4, 9] ∧ (∀ F', (∀ b, F' b → F b) → Aw F' a 3) ∧ ChR FB u w' g F dA2) := Lib.hid (fun u g F h => by
    refine (hC.run u g F dA1 okA1 (by rw [lenA.1]; omega) (by have := lenA.2.2.2.2.1; omega) h).mono ?_
    rintro e w' ⟨v, rfl, hl, hc⟩
    rw [eA.2.2.1] at hl
    rw [eA.2.1]
    obtain ⟨a, cap, rfl, r, n⟩ := hl
    exact ⟨a, cap, rfl, hc.toX, r, fun F' hF' => n.imp id (fun q ad e hf => by have := hC.inb _ _ _ _ h _ (hF' _ hf); have := q ad e; omega), hc⟩)
  have HS1 : Hid (∀ u g F, FB u g F dA2 → Calls Tryz.prog 13 #[.pointer (some ⟨g, 0, none⟩), .int .i64 4] u fun e w' => e = .returned (.tuple #[.agg (cFs ((stateN dA2 4).getD zSt)).toArray, .bool true]) ∧ Below u.heap.size u w') := Lib.hid (fun u g F h => by
    refine (hC.state u g F dA2 4 okA2 (by rw [lenA.2.1]; omega) h (by decide)).mono ?_
    rintro e w' ⟨Y, rfl, hY, hb⟩
    rw [hY, sA.1]
    exact ⟨rfl, hb⟩)
  have HP2 : Hid (∀ u g F gg, FB u g F dA2 → Blk u gg 59 (cNd (nA 7 4 false)).toArray → Calls Tryz.prog 15 #[.pointer (some ⟨g, 0, none⟩), .slice (some ⟨gg, 0, none⟩) 1 1] u fun e w' => e = .returned (.int .i64 8) ∧ ChX FB u w' g F dA2) := Lib.hid (fun u g F gg h k => by
    have := hC.put u g F dA2 _ 1 1 lA2 okA2 (by rw [lenA.2.1]; omega) h (by omega) (rowx_one k) rgA2
    have e2 : putFD dA2 lA2 = dA2 := by unfold putFD; rw [if_neg (by rw [eA.2.2.2.1]; omega)]
    rw [eA.2.2.2.1, e2] at this
    exact this)
  have HP3 : Hid (∀ u g F gg, FB u g F dA2 → Blk u gg 59 (cNd (nA 7 (-1) false)).toArray → Calls Tryz.prog 15 #[.pointer (some ⟨g, 0, none⟩), .slice (some ⟨gg, 0, none⟩) 1 1] u fun e w' => ∃ z, e = .returned (.int .i64 z) ∧ ChX FB u w' g F dA3) := Lib.hid (fun u g F gg h k => (hC.put u g F dA2 _ 1 1 lA3 okA2 (by rw [lenA.2.1]; omega) h (by omega) (rowx_one k) rgA3).mono fun _ _ q => ⟨_, q⟩)
  have HR2 : Hid (∀ u g F, FB u g F dA3 → Calls Tryz.prog 8 #[.pointer (some ⟨g, 0, none⟩)] u fun e w' => ∃ a cap, e = .returned (.tuple #[.slice a 2 cap, .int .i64 0]) ∧ ChX FB u w' g F dA4 ∧ Row w' a 2 [7, 4]) := Lib.hid (fun u g F h => by
    refine (hC.run u g F dA3 okA3 (by rw [lenA.2.2.1]; omega) (by have := lenA.2.2.2.2.2; omega) h).mono ?_
    rintro e w' ⟨v, rfl, hl, hc⟩
    rw [eA.2.2.2.2.2.1] at hl
    rw [eA.2.2.2.2.1]
    obtain ⟨a, cap, rfl, r, n⟩ := hl
    exact ⟨a, cap, rfl, hc.toX, r⟩)
  have HS2 : Hid (∀ u g F, FB u g F dA4 → Calls Tryz.prog 13 #[.pointer (some ⟨g, 0, none⟩), .int .i64 4] u fun e w' => e = .returned (.tuple #[.agg (cFs ((stateN dA4 4).getD zSt)).toArray, .bool true]) ∧ Below u.heap.size u w') := Lib.hid (fun u g F h => by
    refine (hC.state u g F dA4 4 okA4 (by rw [lenA.2.2.2.1]; omega) h (by decide)).mono ?_
    rintro e w' ⟨Y, rfl, hY, hb⟩
    rw [hY, sA.2.2.2.1]
    exact ⟨rfl, hb⟩)
  have HSt : Hid (∀ u g F, FB u g F dA4 → Calls Tryz.prog 10 #[.pointer (some ⟨g, 0, none⟩)] u fun e w' => e = .returned (.int .i64 5) ∧ Below u.heap.size u w') := Lib.hid (fun u g F h => by
    have := hC.steps u g F dA4 h
    rw [eA.2.2.2.2.2.2] at this
    exact this)
  have HKp : Hid (∀ u u' g F D, FB u g F D → Below u.heap.size u u' → FB u' g F D) := Lib.hid (fun u u' g F D h q => hC.keep h q)
  have HIn : Hid (∀ u g F D, FB u g F D → ∀ b, F b → b < u.heap.size) := Lib.hid hC.inb
  have HX1 := Lib.hid (fe_any ((stateN dA2 4).getD zSt))
  have HX2 := Lib.hid (fe_any ((stateN dA4 4).getD zSt))
  have HC1 : Hid (∀ W gg, Blk W gg 48 (cFs ((stateN dA2 4).getD zSt)).toArray → W.cell? ⟨gg, 12, none⟩ = some (.bool false) ∧ W.cell? ⟨gg, 3, none⟩ = some (.int .i64 131072)) := Lib.hid (fun W gg k => by
    have h := cfs_cells k
    rw [sA.2.1, sA.2.2.1] at h
    exact h)
  have HC2 : Hid (∀ W gg, Blk W gg 48 (cFs ((stateN dA4 4).getD zSt)).toArray → W.cell? ⟨gg, 12, none⟩ = some (.bool true)) := Lib.hid (fun W gg k => by
    have h := (cfs_cells k).1
    rw [sA.2.2.2.2] at h
    exact h)
  have HB1 := Lib.hid (bldA3 4 7)
  have HB2 := Lib.hid (bldA4 7 (-1))
  have HB3 := Lib.hid (bldA3 9 (-1))
  have HB4 := Lib.hid (bldA3 7 4)
  have HB5 := Lib.hid (bldA3 7 (-1))
  have HBs : Hid (∀ W, (Instr.buildSlice 23 3 #[(0, .agg (cNd (nA 4 7 false)).toArray), (1, .agg (cNd (nA 7 (-1) true)).toArray), (2, .agg (cNd (nA 9 (-1) false)).toArray)]).run Tryz.prog W = .ok (.slice (some ⟨W.heap.size, 0, none⟩) 3 3) (W.alloc (.cells (lA1.flatMap cNd).toArray 59))) := Lib.hid (bsA3 _ _ _)
  have HBs2 : Hid (∀ W, (Instr.buildSlice 23 1 #[(0, .agg (cNd (nA 7 4 false)).toArray)]).run Tryz.prog W = .ok (.slice (some ⟨W.heap.size, 0, none⟩) 1 1) (W.alloc (.cells (cNd (nA 7 4 false)).toArray 59))) := Lib.hid (bs_nodeF _)
  have HBs3 : Hid (∀ W, (Instr.buildSlice 23 1 #[(0, .agg (cNd (nA 7 (-1) false)).toArray)]).run Tryz.prog W = .ok (.slice (some ⟨W.heap.size, 0, none⟩) 1 1) (W.alloc (.cells (cNd (nA 7 (-1) false)).toArray 59))) := Lib.hid (bs_nodeF _)
  have HMX := Lib.hid (mx_any mvA)
  obtain ⟨MM, hMM⟩ : ∃ MM, MM = lM mvA := ⟨_, rfl⟩
  obtain ⟨Y1, hY1⟩ : ∃ Y1, Y1 = cNd (nA 4 7 false) := ⟨_, rfl⟩
  obtain ⟨Y2, hY2⟩ : ∃ Y2, Y2 = cNd (nA 7 (-1) true) := ⟨_, rfl⟩
  obtain ⟨Y3, hY3⟩ : ∃ Y3, Y3 = cNd (nA 9 (-1) false) := ⟨_, rfl⟩
  obtain ⟨Y4, hY4⟩ : ∃ Y4, Y4 = cNd (nA 7 4 false) := ⟨_, rfl⟩
  obtain ⟨Y5, hY5⟩ : ∃ Y5, Y5 = cNd (nA 7 (-1) false) := ⟨_, rfl⟩
  obtain ⟨Z1, hZ1⟩ : ∃ Z1, Z1 = lA1.flatMap cNd := ⟨_, rfl⟩
  obtain ⟨S1, hS1⟩ : ∃ S1, S1 = cFs ((stateN dA2 4).getD zSt) := ⟨_, rfl⟩
  obtain ⟨S2, hS2⟩ : ∃ S2, S2 = cFs ((stateN dA4 4).getD zSt) := ⟨_, rfl⟩
  obtain ⟨D1, hD1⟩ : ∃ D1, D1 = dA1 := ⟨_, rfl⟩
  obtain ⟨D2, hD2⟩ : ∃ D2, D2 = dA2 := ⟨_, rfl⟩
  obtain ⟨D3, hD3⟩ : ∃ D3, D3 = dA3 := ⟨_, rfl⟩
  obtain ⟨D4, hD4⟩ : ∃ D4, D4 = dA4 := ⟨_, rfl⟩
  rw [← hMM] at HMv HB1 HB2 HB3 HB4 HB5 HMX
  rw [← hY1] at HB1 HBs
  rw [← hY2] at HB2 HBs
  rw [← hY3] at HB3 HBs
  rw [← hY4] at HB4 HBs2 HP2
  rw [← hY5] at HB5 HBs3 HP3
  rw [← hZ1] at HP1 HBs
  rw [← hS1] at HS1 HX1 HC1
  rw [← hS2] at HS2 HX2 HC2
  rw [← hD1] at HP1 HR1
  rw [← hD2] at HR1 HS1 HP2 HP3
  rw [← hD3] at HP3 HR2
  rw [← hD4] at HR2 HS2 HSt
  clear hC hMM hY1 hY2 hY3 hY4 hY5 hZ1 hS1 hS2 hD1 hD2 hD3 hD4
  go_enter Tryz.func5, Tryz.ntmps5
  go_wp2_with fail
  refine HN.out.mono ?_
  rintro e w1 ⟨g, F, rfl, hf, hF, hb⟩
  have HF := Lib.hid hF
  have HB := Lib.hid hb
  have HFB := Lib.hid hf
  clear hf hF hb HN
  go_wp2_with fail
  refine (HMv.out _).mono ?_
  rintro e w2 ⟨rfl, hb2⟩
  have hal : Below w2.heap.size w2 (w2.alloc (.cells (lM zeroM).toArray 46)) := alloc_below _ _
  have hbs : Below w2.heap.size w2 ((w2.alloc (.cells (lM zeroM).toArray 46)).setCells w2.heap.size 0 MM) := below_setCells MM hal (Nat.le_refl _)
  have HTh : Hid ((w2.alloc (.cells (lM zeroM).toArray 46)).there w2.heap.size 0 MM.toArray.size) := Lib.hid (blk_there (Blk.new w2 _ _) (by rw [List.size_toArray, HMX.out.len]; exact Nat.le_refl 12))
  have HE : Hid (Blk ((w2.alloc (.cells (lM zeroM).toArray 46)).setCells w2.heap.size 0 MM) w2.heap.size 46 MM.toArray ∧ FB ((w2.alloc (.cells (lM zeroM).toArray 46)).setCells w2.heap.size 0 MM) g F FD0 ∧ Below w.heap.size w ((w2.alloc (.cells (lM zeroM).toArray 46)).setCells w2.heap.size 0 MM) ∧ ¬ F w2.heap.size) := Lib.hid ⟨blk_over (Blk.new w2 _ _) (by rw [HMX.out.len]; rfl), HKp.out _ _ _ _ _ HFB.out (bthen hb2 hbs), bthen HB.out (bthen hb2 hbs), fun c => by have := HIn.out _ _ _ _ HFB.out _ c; have := hb2.size; omega⟩
  clear hal hbs hb2 HFB HB
  go_upto_region 3 with (refine wpList_store_mid rfl 46 (.tmp 2) (.tmp 15) rfl w2.heap.size 0 MM.toArray rfl rfl HTh.out HMX.out.sizea HMX.out.onea ?_)
  refine fin (fun W => Blk W w2.heap.size 46 MM.toArray ∧ FB W g F FD0 ∧ Below w.heap.size w W ∧ ¬ F w2.heap.size) HE.out ?_
  clear HE HTh HMv
  obtain ⟨g2, hg2⟩ : ∃ g2, g2 = w2.heap.size := ⟨_, rfl⟩
  rw [← hg2]
  rintro W ⟨k2, hf, hb, hn2⟩
  have HB := Lib.hid hb
  have HFB := Lib.hid hf
  have K2 := Lib.hid k2
  have HM2 : Hid (W.rangeAt g2 0 MM) := Lib.hid (blk_whole k2)
  have HN2 := Lib.hid hn2
  have z2 := k2.lt
  clear k2 hf hb hn2 hg2
  go_wp2_with (refine wpList_load_mid rfl 46 (.tmp 2) rfl g2 0 rfl MM _ HM2.out Tryz.underlying46 rfl HMX.out.size ?_; refine wpl_act (by first | (simp only [Go.Act.put, List.setIfInBounds_toArray, List.set_cons_succ, List.set_cons_zero]; done) | (simp only [Go.Act.put, List.setIfInBounds_toArray, List.set_cons_succ, List.set_cons_zero]; rfl)) ?_; refine wpList_bld3f rfl 59 (.const (.int .i64 4)) (.const (.int .i64 7)) (.tmp 17) rfl (.int .i64 4) (.int .i64 7) (.agg MM.toArray) (.agg Y1.toArray) rfl rfl rfl HB1.out ?_; refine wpl_act (by first | (simp only [Go.Act.put, List.setIfInBounds_toArray, List.set_cons_succ, List.set_cons_zero]; done) | (simp only [Go.Act.put, List.setIfInBounds_toArray, List.set_cons_succ, List.set_cons_zero]; rfl)) ?_; refine wpList_load_mid rfl 46 (.tmp 2) rfl g2 0 rfl MM _ HM2.out Tryz.underlying46 rfl HMX.out.size ?_; refine wpl_act (by first | (simp only [Go.Act.put, List.setIfInBounds_toArray, List.set_cons_succ, List.set_cons_zero]; done) | (simp only [Go.Act.put, List.setIfInBounds_toArray, List.set_cons_succ, List.set_cons_zero]; rfl)) ?_; refine wpList_bld4f rfl 59 (.const (.int .i64 7)) (.const (.int .i64 (-1))) (.tmp 19) (.const (.bool true)) rfl (.int .i64 7) (.int .i64 (-1)) (.agg MM.toArray) (.bool true) (.agg Y2.toArray) rfl rfl rfl rfl HB2.out ?_; refine wpl_act (by first | (simp only [Go.Act.put, List.setIfInBounds_toArray, List.set_cons_succ, List.set_cons_zero]; done) | (simp only [Go.Act.put, List.setIfInBounds_toArray, List.set_cons_succ, List.set_cons_zero]; rfl)) ?_; refine wpList_load_mid rfl 46 (.tmp 2) rfl g2 0 rfl MM _ HM2.out Tryz.underlying46 rfl HMX.out.size ?_; refine wpl_act (by first | (simp only [Go.Act.put, List.setIfInBounds_toArray, List.set_cons_succ, List.set_cons_zero]; done) | (simp only [Go.Act.put, List.setIfInBounds_toArray, List.set_cons_succ, List.set_cons_zero]; rfl)) ?_; refine wpList_bld3f rfl 59 (.const (.int .i64 9)) (.const (.int .i64 (-1))) (.tmp 21) rfl (.int .i64 9) (.int .i64 (-1)) (.agg MM.toArray) (.agg Y3.toArray) rfl rfl rfl HB3.out ?_; refine wpl_act (by first | (simp only [Go.Act.put, List.setIfInBounds_toArray, List.set_cons_succ, List.set_cons_zero]; done) | (simp only [Go.Act.put, List.setIfInBounds_toArray, List.set_cons_succ, List.set_cons_zero]; rfl)) ?_; refine wpList_bs3 rfl 23 59 (.tmp 18) (.tmp 20) (.tmp 22) rfl Y1 Y2 Y3 Z1 rfl rfl rfl HBs.out ?_; refine wpl_act (by first | (simp only [Go.Act.put, List.setIfInBounds_toArray, List.set_cons_succ, List.set_cons_zero]; done) | (simp only [Go.Act.put, List.setIfInBounds_toArray, List.set_cons_succ, List.set_cons_zero]; rfl)) ?_)
  have hal : Below W.heap.size W (W.alloc (.cells Z1.toArray 59)) := alloc_below _ _
  refine (HP1.out _ g F W.heap.size (HKp.out _ _ _ _ _ HFB.out hal) (Blk.new W _ _)).mono ?_
  rintro e w3 ⟨rfl, hc⟩
  obtain ⟨F1, hf, hF, hb, hk⟩ := hc.low (bthen HB.out hal) HF.out
  replace K2 := Lib.hid ((K2.out.keep hal).same (hk g2 (K2.out.keep hal).lt HN2.out).1)
  replace HN2 := Lib.hid (hk g2 (Nat.lt_of_lt_of_le z2 hal.size) HN2.out).2
  replace HF := Lib.hid hF
  replace HB := Lib.hid hb
  replace HFB := Lib.hid hf
  clear hc hf hF hb hk hal HP1 HB1 HB2 HB3 HBs HM2 z2
  go_wp2_with fail
  refine (HR1.out _ _ _ HFB.out).mono ?_
  rintro e w4 ⟨ra, rc, rfl, hcx, hr, haw, hc⟩
  obtain ⟨F2, hf, hfr, hsub⟩ := hc
  have HRA := Lib.hid (And.intro hr (haw F2 hsub))
  have hlt2 := K2.out.lt
  replace K2 := Lib.hid (K2.out.same (hfr.2.2.2.2 g2 hlt2 HN2.out))
  replace HN2 : Hid (¬ F2 g2) := Lib.hid (fun c => HN2.out (hsub _ c))
  replace HB := Lib.hid (Fr.below hfr HB.out HF.out HB.out.size)
  replace HF : Hid (∀ b, F2 b → w.heap.size ≤ b) := Lib.hid (fun b c => HF.out b (hsub b c))
  replace HFB := Lib.hid hf
  clear hcx hr haw hf hfr hsub hlt2 HR1
  go_wp2_with fail
  refine (HS1.out _ _ _ HFB.out).mono ?_
  rintro e w5 ⟨rfl, hb5⟩
  have hal : Below w5.heap.size w5 (w5.alloc (.cells (cFs zSt).toArray 48)) := alloc_below _ _
  have hbs : Below w5.heap.size w5 ((w5.alloc (.cells (cFs zSt).toArray 48)).setCells w5.heap.size 0 S1) := below_setCells S1 hal (Nat.le_refl _)
  have HTh : Hid ((w5.alloc (.cells (cFs zSt).toArray 48)).there w5.heap.size 0 S1.toArray.size) := Lib.hid (blk_there (Blk.new w5 _ _) (by rw [List.size_toArray, HX1.out.len]; exact Nat.le_refl 13))
  have hbb := bthen hb5 hbs
  have HE : Hid (Blk ((w5.alloc (.cells (cFs zSt).toArray 48)).setCells w5.heap.size 0 S1) w5.heap.size 48 S1.toArray ∧ Blk ((w5.alloc (.cells (cFs zSt).toArray 48)).setCells w5.heap.size 0 S1) g2 46 MM.toArray ∧ Row ((w5.alloc (.cells (cFs zSt).toArray 48)).setCells w5.heap.size 0 S1) ra 3 [7, 4, 9] ∧ FB ((w5.alloc (.cells (cFs zSt).toArray 48)).setCells w5.heap.size 0 S1) g F2 D2 ∧ Below w.heap.size w ((w5.alloc (.cells (cFs zSt).toArray 48)).setCells w5.heap.size 0 S1) ∧ ¬ F2 w5.heap.size) := Lib.hid ⟨blk_over (Blk.new w5 _ _) (by rw [HX1.out.len]; rfl), K2.out.keep hbb, row_keep HRA.out.1 hbb, HKp.out _ _ _ _ _ HFB.out hbb, bthen HB.out hbb, fun c => by have := HIn.out _ _ _ _ HFB.out _ c; have := hb5.size; omega⟩
  have HAw := Lib.hid HRA.out.2
  clear hal hbs hbb hb5 HS1 HRA HFB HB K2
  go_upto_region 6 with (refine wpList_store_mid rfl 48 (.tmp 6) (.tmp 33) rfl w5.heap.size 0 S1.toArray rfl rfl HTh.out HX1.out.sizea HX1.out.onea ?_)
  refine fin (fun W => Blk W w5.heap.size 48 S1.toArray ∧ Blk W g2 46 MM.toArray ∧ Row W ra 3 [7, 4, 9] ∧ FB W g F2 D2 ∧ Below w.heap.size w W ∧ ¬ F2 w5.heap.size) HE.out ?_
  clear HE HTh HX1
  obtain ⟨g6, hg6⟩ : ∃ g6, g6 = w5.heap.size := ⟨_, rfl⟩
  rw [← hg6]
  rintro W6 ⟨k6, k2, hr, hf, hb, hn6⟩
  have K6 := Lib.hid (And.intro k6 hn6)
  have K2 := Lib.hid k2
  have HM2 : Hid (W6.rangeAt g2 0 MM) := Lib.hid (blk_whole k2)
  have HRA := Lib.hid (And.intro hr HAw.out)
  have HB := Lib.hid hb
  have HFB := Lib.hid hf
  have z2 := k2.lt
  clear k6 k2 hr hf hb hn6 hg6 HAw
  go_wp2_with (refine wpList_load_mid rfl 46 (.tmp 2) rfl g2 0 rfl MM _ HM2.out Tryz.underlying46 rfl HMX.out.size ?_; refine wpl_act (by first | (simp only [Go.Act.put, List.setIfInBounds_toArray, List.set_cons_succ, List.set_cons_zero]; done) | (simp only [Go.Act.put, List.setIfInBounds_toArray, List.set_cons_succ, List.set_cons_zero]; rfl)) ?_; refine wpList_bld3f rfl 59 (.const (.int .i64 7)) (.const (.int .i64 4)) (.tmp 36) rfl (.int .i64 7) (.int .i64 4) (.agg MM.toArray) (.agg Y4.toArray) rfl rfl rfl HB4.out ?_; refine wpl_act (by first | (simp only [Go.Act.put, List.setIfInBounds_toArray, List.set_cons_succ, List.set_cons_zero]; done) | (simp only [Go.Act.put, List.setIfInBounds_toArray, List.set_cons_succ, List.set_cons_zero]; rfl)) ?_; refine wpList_bs8 rfl 23 59 (.tmp 37) rfl Y4 rfl HBs2.out ?_; refine wpl_act (by first | (simp only [Go.Act.put, List.setIfInBounds_toArray, List.set_cons_succ, List.set_cons_zero]; done) | (simp only [Go.Act.put, List.setIfInBounds_toArray, List.set_cons_succ, List.set_cons_zero]; rfl)) ?_)
  have hal : Below W6.heap.size W6 (W6.alloc (.cells Y4.toArray 59)) := alloc_below _ _
  refine (HP2.out _ g F2 W6.heap.size (HKp.out _ _ _ _ _ HFB.out hal) (Blk.new W6 _ _)).mono ?_
  rintro e w7 ⟨rfl, hc⟩
  obtain ⟨F3, hf, hF, hb, hk⟩ := hc.low (bthen HB.out hal) HF.out
  replace HRA := Lib.hid (row_apart (row_keep HRA.out.1 hal) HRA.out.2 hk)
  have k6 := K6.out.1.keep hal
  have k2 := K2.out.keep hal
  have q6 := hk g6 k6.lt K6.out.2
  have q2 := hk g2 k2.lt HN2.out
  replace K6 := Lib.hid (And.intro (k6.same q6.1) q6.2)
  replace K2 := Lib.hid (k2.same q2.1)
  replace HN2 := Lib.hid q2.2
  replace HM2 : Hid (w7.rangeAt g2 0 MM) := Lib.hid (blk_whole K2.out)
  replace HF := Lib.hid hF
  replace HB := Lib.hid hb
  replace HFB := Lib.hid hf
  clear hc hf hF hb hk hal k6 k2 q6 q2 HP2 HB4 HBs2 z2
  go_wp2_with (refine wpList_load_mid rfl 46 (.tmp 2) rfl g2 0 rfl MM _ HM2.out Tryz.underlying46 rfl HMX.out.size ?_; refine wpl_act (by first | (simp only [Go.Act.put, List.setIfInBounds_toArray, List.set_cons_succ, List.set_cons_zero]; done) | (simp only [Go.Act.put, List.setIfInBounds_toArray, List.set_cons_succ, List.set_cons_zero]; rfl)) ?_; refine wpList_bld3f rfl 59 (.const (.int .i64 7)) (.const (.int .i64 (-1))) (.tmp 41) rfl (.int .i64 7) (.int .i64 (-1)) (.agg MM.toArray) (.agg Y5.toArray) rfl rfl rfl HB5.out ?_; refine wpl_act (by first | (simp only [Go.Act.put, List.setIfInBounds_toArray, List.set_cons_succ, List.set_cons_zero]; done) | (simp only [Go.Act.put, List.setIfInBounds_toArray, List.set_cons_succ, List.set_cons_zero]; rfl)) ?_; refine wpList_bs8 rfl 23 59 (.tmp 42) rfl Y5 rfl HBs3.out ?_; refine wpl_act (by first | (simp only [Go.Act.put, List.setIfInBounds_toArray, List.set_cons_succ, List.set_cons_zero]; done) | (simp only [Go.Act.put, List.setIfInBounds_toArray, List.set_cons_succ, List.set_cons_zero]; rfl)) ?_)
  have hal : Below w7.heap.size w7 (w7.alloc (.cells Y5.toArray 59)) := alloc_below _ _
  refine (HP3.out _ g F3 w7.heap.size (HKp.out _ _ _ _ _ HFB.out hal) (Blk.new w7 _ _)).mono ?_
  rintro e w8 ⟨z3, rfl, hc⟩
  obtain ⟨F4, hf, hF, hb, hk⟩ := hc.low (bthen HB.out hal) HF.out
  replace HRA := Lib.hid (row_apart (row_keep HRA.out.1 hal) HRA.out.2 hk)
  have k6 := K6.out.1.keep hal
  have q6 := hk g6 k6.lt K6.out.2
  replace K6 := Lib.hid (And.intro (k6.same q6.1) q6.2)
  replace HF := Lib.hid hF
  replace HB := Lib.hid hb
  replace HFB := Lib.hid hf
  clear hc hf hF hb hk hal k6 q6 HP3 HB5 HBs3 HM2 K2 HN2
  go_wp2_with fail
  refine (HR2.out _ _ _ HFB.out).mono ?_
  rintro e w9 ⟨rb, rbc, rfl, hc, hr⟩
  obtain ⟨F5, hf, hF, hb, hk⟩ := hc.low HB.out HF.out
  replace HRA := Lib.hid (row_apart HRA.out.1 HRA.out.2 hk)
  have q6 := hk g6 K6.out.1.lt K6.out.2
  replace K6 := Lib.hid (K6.out.1.same q6.1)
  have HRB := Lib.hid hr
  replace HF := Lib.hid hF
  replace HB := Lib.hid hb
  replace HFB := Lib.hid hf
  clear hc hf hF hb hk q6 hr HR2
  go_wp2_with fail
  refine (HS2.out _ _ _ HFB.out).mono ?_
  rintro e w10 ⟨rfl, hb5⟩
  have hal : Below w10.heap.size w10 (w10.alloc (.cells (cFs zSt).toArray 48)) := alloc_below _ _
  have hbs : Below w10.heap.size w10 ((w10.alloc (.cells (cFs zSt).toArray 48)).setCells w10.heap.size 0 S2) := below_setCells S2 hal (Nat.le_refl _)
  have HTh : Hid ((w10.alloc (.cells (cFs zSt).toArray 48)).there w10.heap.size 0 S2.toArray.size) := Lib.hid (blk_there (Blk.new w10 _ _) (by rw [List.size_toArray, HX2.out.len]; exact Nat.le_refl 13))
  have hbb := bthen hb5 hbs
  have HE : Hid (Blk ((w10.alloc (.cells (cFs zSt).toArray 48)).setCells w10.heap.size 0 S2) w10.heap.size 48 S2.toArray ∧ Blk ((w10.alloc (.cells (cFs zSt).toArray 48)).setCells w10.heap.size 0 S2) g6 48 S1.toArray ∧ Row ((w10.alloc (.cells (cFs zSt).toArray 48)).setCells w10.heap.size 0 S2) ra 3 [7, 4, 9] ∧ Row ((w10.alloc (.cells (cFs zSt).toArray 48)).setCells w10.heap.size 0 S2) rb 2 [7, 4] ∧ FB ((w10.alloc (.cells (cFs zSt).toArray 48)).setCells w10.heap.size 0 S2) g F5 D4 ∧ Below w.heap.size w ((w10.alloc (.cells (cFs zSt).toArray 48)).setCells w10.heap.size 0 S2)) := Lib.hid ⟨blk_over (Blk.new w10 _ _) (by rw [HX2.out.len]; rfl), K6.out.keep hbb, row_keep HRA.out.1 hbb, row_keep HRB.out hbb, HKp.out _ _ _ _ _ HFB.out hbb, bthen HB.out hbb⟩
  clear hal hbs hbb hb5 HS2 HRA HRB HFB HB K6
  go_upto_region 10 with (refine wpList_store_mid rfl 48 (.tmp 11) (.tmp 53) rfl w10.heap.size 0 S2.toArray rfl rfl HTh.out HX2.out.sizea HX2.out.onea ?_)
  refine fin (fun W => Blk W w10.heap.size 48 S2.toArray ∧ Blk W g6 48 S1.toArray ∧ Row W ra 3 [7, 4, 9] ∧ Row W rb 2 [7, 4] ∧ FB W g F5 D4 ∧ Below w.heap.size w W) HE.out ?_
  clear HE HTh HX2
  obtain ⟨g11, hg11⟩ : ∃ g11, g11 = w10.heap.size := ⟨_, rfl⟩
  rw [← hg11]
  rintro W10 ⟨k11, k6, hr, hr2, hf, hb⟩
  have K11 := Lib.hid k11
  have K6 := Lib.hid k6
  have HRB := Lib.hid hr2
  have HB := Lib.hid hb
  have HFB := Lib.hid hf
  have HS := Lib.hid (psame_yes (cap := rc) (cap' := 3) (row_keep hr (alloc_below W10 (.cells #[.int .i64 7, .int .i64 4, .int .i64 9] 41))) (row_lit W10 41 [7, 4, 9] (by decide)))
  clear k11 k6 hr hr2 hf hb hg11
  go_wp2_with fail
  refine HS.out.mono ?_
  rintro e w11 ⟨rfl, hb⟩
  have hb7 : Below W10.heap.size W10 w11 := bthen (alloc_below _ _) hb
  replace HFB := Lib.hid (HKp.out _ _ _ _ _ HFB.out hb7)
  replace HB := Lib.hid (bthen HB.out hb7)
  replace HRB := Lib.hid (row_keep HRB.out hb7)
  replace K11 := Lib.hid (K11.out.keep hb7)
  obtain ⟨c12, c3⟩ := HC1.out _ _ (K6.out.keep hb7)
  clear hb hb7 HS
  have HS := Lib.hid (psame_yes (cap := rbc) (cap' := 2) (row_keep HRB.out (alloc_below w11 (.cells #[.int .i64 7, .int .i64 4] 41))) (row_lit w11 41 [7, 4] (by decide)))
  go_wp2_with fail
  refine HS.out.mono ?_
  rintro e w12 ⟨rfl, hb⟩
  have hb9 : Below w11.heap.size w11 w12 := bthen (alloc_below _ _) hb
  replace HFB := Lib.hid (HKp.out _ _ _ _ _ HFB.out hb9)
  replace HB := Lib.hid (bthen HB.out hb9)
  have c11 := HC2.out _ _ (K11.out.keep hb9)
  clear hb hb9 HS HRB K11 c12 c3
  go_wp2_with fail
  refine (HSt.out _ _ _ HFB.out).mono ?_
  rintro e w13 ⟨rfl, hb⟩
  replace HB := Lib.hid (bthen HB.out hb)
  clear hb
  go_wp2
  go_ret
  exact ⟨rfl, HB.out⟩
end
end Go.Proofs.YtdndafdninnjfaaGreat
/-
  What the acts of the laws of layer 10 leave behind them, and how much; both flows new.
-/
namespace Go.Proofs.YtdndafdninnjfaaGreat
open Go.RowKit

/-- behind so many acts -/
def Dk (As : List A10) (j : Nat) : FD := (As.take j).foldl (fun D x => doA D x.k x.l x.ids) FD0
theorem Dk_succ {As : List A10} {j : Nat} {x : A10} (h : As[j]? = some x) : Dk As (j + 1) = doA (Dk As j) x.k x.l x.ids := by
  unfold Dk
  rw [List.take_add_one, h, List.foldl_append]
  rfl
structure Bk (a m : Nat) (D : FD) : Prop where
  l : D.L.length ≤ m
  d : D.dirty.length ≤ 80 * m
  s : D.steps ≤ 80 * a
theorem Bk.act {a m : Nat} {D : FD} (h : Bk a m D) (hD : DOk D) (hm : m ≤ 80) (k : Int) (l : List Nd) (xs : List Int) : Bk (a + 1) (m + (l.length + xs.length)) (doA D k l xs) := by
  have h1 := h.l
  have h2 := h.d
  have h3 := h.s
  unfold doA
  split
  · obtain ⟨b1, b2, b3⟩ := put_size D l
    exact ⟨by omega, by omega, by omega⟩
  · split
    · obtain ⟨b1, b2, b3⟩ := drops_size xs D m h.l
      have hx : xs.length * m ≤ xs.length * 80 := Nat.mul_le_mul_left _ hm
      exact ⟨by omega, by omega, by omega⟩
    · refine ⟨by show D.L.length ≤ _; omega, by show 0 ≤ _; omega, ?_⟩
      show D.steps + (touchN D).length ≤ _
      have := touch_len hD.wf
      omega
theorem Dk_all {w : World} {a : Option Addr} {len : Nat} {As : List A10} (row : ARow10 w a len As) (hS : ∀ j, j ≤ len → suA As j ≤ 80) : ∀ j, j ≤ len → DOk (Dk As j) ∧ Bk j (suA As j) (Dk As j)
  | 0, _ => ⟨DOk.zero, ⟨Nat.zero_le _, Nat.zero_le _, Nat.le_refl _⟩⟩
  | j + 1, hj => by
    obtain ⟨h1, h2⟩ := Dk_all row hS j (by omega)
    obtain ⟨b, off, x, _, hx, _, ho⟩ := row.at_ (show j < len by omega)
    obtain ⟨_, _, ⟨r1, r2⟩, r3, _⟩ := ho
    rw [Dk_succ hx, suA_step hx]
    have e1 : x.l.length = x.n := r1.1
    have e2 : x.ids.length = x.m := r3.1
    rw [← e1, ← e2]
    exact ⟨h1.act _ r2 _, h2.act h1 (hS j (by omega)) _ _ _⟩
theorem rwb_new (u : World) : RWB (u.alloc (.cells #[.slice none 0 0, .slice none 0 0, .bool false, .slice none 0 0, .int .i64 0] 33)) u.heap.size (footW u.heap.size (.slice none 0 0) (.slice none 0 0) (.slice none 0 0)) FD0 :=
  ⟨_, _, _, ⟨Blk.new u _ _, World.ownsRow_nil _ _ _ _, World.ownsRow_nil _ _ _ _, World.ownsRow_nil _ _ _ _, fun b e => (by cases e), fun b e => (by cases e), fun b e => (by cases e)⟩, fun _ => Iff.rfl⟩
section
variable {FB : World → Nat → (Nat → Prop) → FD → Prop}
theorem FWC.kb (hC : FWC FB) (hg : ∀ w g F D, FB w g F D → g < w.heap.size) : KB10 FB := ⟨hC.keep_, hC.inb, hg⟩
/-- both new -/
theorem Duo10.new (hC : FWC FB) {w w1 : World} {gp : Nat} {Fp : Nat → Prop} (h : FB w1 gp Fp FD0) (hF : ∀ b, Fp b → w.heap.size ≤ b) (hb : Below w.heap.size w w1) :
    Duo10 FB RWB w (w1.alloc (.cells #[.slice none 0 0, .slice none 0 0, .bool false, .slice none 0 0, .int .i64 0] 33)) gp w1.heap.size Fp (footW w1.heap.size (.slice none 0 0) (.slice none 0 0) (.slice none 0 0)) FD0 FD0 := by
  have hal : Below w1.heap.size w1 (w1.alloc (.cells #[.slice none 0 0, .slice none 0 0, .bool false, .slice none 0 0, .int .i64 0] 33)) := alloc_below _ _
  refine ⟨hC.keep h hal, rwb_new w1, fun b hp hq => ?_, bthen hb hal, hF, fun b hq => ?_⟩
  · have := hC.inb w1 gp Fp FD0 h b hp
    rcases hq with e | e | e | e
    · omega
    · cases e
    · cases e
    · cases e
  · rcases hq with e | e | e | e
    · rw [e]; exact hb.size
    · cases e
    · cases e
    · cases e
end
end Go.Proofs.YtdndafdninnjfaaGreat
