/-
  What the landed table's Put, Cut and Add answer; the landed table keeps the bundle.
-/
import Derived.Test.YtkondkajpmafkaaGreatMT43
namespace Go.Proofs.YtkondkajpmafkaaGreat
open Go.RowKit

theorem inR_nat {R : TR} {row : Int} (h : inR R row = true) : ∃ r : Nat, row = (r : Int) ∧ r < R.length := by
  unfold inR at h
  rw [Bool.and_eq_true, decide_eq_true_eq, decide_eq_true_eq] at h
  exact ⟨row.toNat, by omega, by omega⟩
theorem has_find {R : TR} {id : Int} (h : hasId R id = true) : 0 ≤ findI R id := by
  unfold findI
  cases hf : R.findIdx? (fun r => r.1 == id) with
  | none =>
    rw [List.findIdx?_eq_none_iff] at hf
    unfold hasId at h
    rw [List.any_eq_true] at h
    obtain ⟨x, hx, e⟩ := h
    rw [hf x hx] at e
    cases e
  | some i => exact Int.natCast_nonneg i
theorem hasnt_find {R : TR} {id : Int} (h : hasId R id = false) : findI R id = -1 := by
  unfold findI
  have : R.findIdx? (fun r => r.1 == id) = none := List.findIdx?_eq_none_iff.2 (fun x hx => by
    unfold hasId at h
    rw [List.any_eq_false] at h
    simpa using h x hx)
  rw [this]
theorem fit_set {s : Int} {R : TR} {i : Nat} {x : Int} {P : PT} (hf : ∀ x ∈ R, fitsB s x.2 = true) (hP : fitsB s P = true) : ∀ y ∈ R.set i (x, P), fitsB s y.2 = true := fun y hy => by
  rcases List.mem_or_eq_of_mem_set hy with h | h
  · exact hf y h
  · rw [h]; exact hP
theorem fit_add {s : Int} {R : TR} {x : Int} {P : PT} (hf : ∀ x ∈ R, fitsB s x.2 = true) (hP : fitsB s P = true) : ∀ y ∈ R ++ [(x, P)], fitsB s y.2 = true := fun y hy => by
  rcases List.mem_append.1 hy with h | h
  · exact hf y h
  · rw [List.mem_singleton.1 h]; exact hP
theorem fit_cut {s : Int} {R : TR} {i : Nat} (hf : ∀ x ∈ R, fitsB s x.2 = true) (hi : i < R.length) : ∀ y ∈ cutL R i, fitsB s y.2 = true := fun y hy => by
  unfold cutL at hy
  rw [if_pos hi] at hy
  rcases List.mem_or_eq_of_mem_set (List.mem_of_mem_take hy) with h | h
  · exact hf y h
  · rw [h]
    refine hf _ ?_
    exact List.mem_of_getElem? (getD_at (by omega))
/-- from a step to the bundle's words -/
theorem step_out {w w' : World} {g : Nat} {v v' : Nat → Value} {L : Nat → Prop} (hL : ∀ b, L b ↔ foot g v b) (st : Step w w' g v v') : Fr w w' L ∧ ∀ b, foot g v' b → L b ∨ w.heap.size ≤ b :=
  ⟨st.fr.of (fun b h => (hL b).2 h), fun b h => (st.new b h).imp (fun c => (hL b).2 c) id⟩
theorem rs_len8 {s : Int} {R : TR} (hR : R.length ≤ 1000) : ∀ i, i < 8 → (Rs s R i).length ≤ 1000 := fun i _ => Nat.le_trans (Rs_len s R i) hR

/-- a call that makes memory, and then one of what was handed in: the last region of Put and Add -/
theorem fits_no {s : Int} {P : PT} (h : fitsB s P = false) (R : TR) (row id : Int) : tpuE s R row P = 1 ∧ tpuR s R row P = R ∧ tadE s R id P = 1 ∧ tadN s R id P = 0 ∧ tadR s R id P = R := by
  have e1 : tpuE s R row P = 1 := by unfold tpuE; rw [h]; rfl
  have e2 : tadE s R id P = 1 := by unfold tadE; rw [h]; rfl
  refine ⟨e1, ?_, e2, ?_, ?_⟩
  · unfold tpuR; rw [e1]; rfl
  · unfold tadN; rw [e2]; rfl
  · unfold tadR; rw [e2]; rfl

set_option maxHeartbeats 4000000 in
set_option maxRecDepth 100000 in
theorem tput_any (w : World) (g : Nat) (L : Nat → Prop) (s : Int) (R : TR) (row : Int) (P : PT) (hR : R.length ≤ 1000) (h : TBl w g L s R) :
    Calls Tryz.prog 169 #[.pointer (some ⟨g, 0, none⟩), .int .i64 row, .agg (pl P).toArray] w fun e w' => ∃ L', e = .returned (.int .i64 (tpuE s R row P)) ∧ TBl w' g L' s (tpuR s R row P) ∧ Fr w w' L ∧ ∀ b, L' b → L b ∨ w.heap.size ≤ b := by
  obtain ⟨v, h1, hL, hs, hf⟩ := h
  have HT0 := Lib.hid h1
  have HLL := Lib.hid hL
  have HSS := Lib.hid hs
  have HFF := Lib.hid hf
  have hg := h1.blk.lt
  have HSz := Lib.hid (pl_size P)
  have HP : Hid (¬ foot g v w.heap.size) := Lib.hid (fun c => by have := h1.inb _ c; omega)
  obtain ⟨bf, hbf⟩ : ∃ bf, fitsB s P = bf := ⟨_, rfl⟩
  have HFi : Hid (∀ u, Below w.heap.size w u → Calls Tryz.prog 162 #[.pointer (some ⟨g, 0, none⟩), .agg (pl P).toArray] u fun e w' => e = .returned (.bool bf) ∧ Below u.heap.size u w') := Lib.hid (fun u k => fits_any (h1.keep k) P hbf)
  obtain ⟨bt, hbt⟩ : ∃ bt, inR R row = bt := ⟨_, rfl⟩
  have HTh : Hid (∀ u, Below w.heap.size w u → Calls Tryz.prog 121 #[.pointer (some ⟨g, 0, none⟩), .int .i64 row] u fun e w' => e = .returned (.bool bt) ∧ u = w') := Lib.hid (fun u k => there_any (h1.keep k) row (X := Rs s R) hbt)
  have HWr : Hid (∀ u (r : Nat) (i0 : Int), Below w.heap.size w u → row = (r : Int) → Calls Tryz.prog 189 #[.pointer (some ⟨g, 1, none⟩), .int .i64 row, .agg (pl P).toArray] u fun e w' => e = .returned (.tuple #[]) ∧ Tab w' g s v (putTo (Rs s R) r (i0, P) 8) ∧ Step u w' g v v) := Lib.hid (fun u r i0 k e => by
    obtain ⟨hh, M, m, B, p, a, c, l⟩ := P
    rw [e]
    exact write_any (h1.keep k) (rs_len8 hR) r i0 hh M m B p a c l)
  have HBF := Lib.hid hbf
  have HBT := Lib.hid hbt
  obtain ⟨Xp, hXp⟩ : ∃ Xp, Xp = pl P := ⟨_, rfl⟩
  rw [← hXp] at HSz HFi HWr
  rw [← hXp]
  clear hXp h1 hL hs hf hbf hbt
  have KP := Lib.hid (Blk.new w 43 Xp.toArray)
  have HB : Hid (Below w.heap.size w (w.alloc (.cells Xp.toArray 43))) := Lib.hid (alloc_below _ _)
  go_enter Tryz.func169, Tryz.ntmps169
  go_wp2_with (refine wpList_load_mid rfl 43 (.tmp 5) rfl w.heap.size 0 rfl Xp _ (blk_whole KP.out) Tryz.underlying43 rfl HSz.out ?_)
  refine (HFi.out _ HB.out).mono ?_
  rintro e w1 ⟨rfl, b1⟩
  replace KP := Lib.hid (Blk.keep KP.out b1)
  replace HB := Lib.hid (bthen HB.out b1)
  clear b1 HFi
  cases bf with
  | false =>
    go_wp2
    go_ret
    obtain ⟨e1, e2, _⟩ := fits_no HBF.out R row 0
    refine ⟨L, by rw [e1]; rfl, ?_, ?_, fun b hb => Or.inl hb⟩
    · rw [e2]; exact TBl.keep ⟨v, HT0.out, HLL.out, HSS.out, HFF.out⟩ HB.out
    · exact ⟨HB.out.os, HB.out.tape, HB.out.output, HB.out.size, fun k hk _ => HB.out.block k hk⟩
  | true =>
    go_wp2_with fail
    refine (HTh.out _ HB.out).mono ?_
    rintro e w2 ⟨rfl, rfl⟩
    clear HTh
    cases bt with
    | false =>
      go_wp2
      go_ret
      have e1 : tpuE s R row P = 4 := by unfold tpuE; rw [HBF.out, HBT.out]; rfl
      refine ⟨L, by rw [e1]; rfl, ?_, ?_, fun b hb => Or.inl hb⟩
      · unfold tpuR; rw [e1]; exact TBl.keep ⟨v, HT0.out, HLL.out, HSS.out, HFF.out⟩ HB.out
      · exact ⟨HB.out.os, HB.out.tape, HB.out.output, HB.out.size, fun k hk _ => HB.out.block k hk⟩
    | true =>
      obtain ⟨r, hr, hlt⟩ := inR_nat HBT.out
      have HR := Lib.hid hr
      have HRl := Lib.hid hlt
      clear hr hlt
      go_upto_region 5 with fail
      refine wp_region_held_drew (S := fun w' => w'.rangeAt w.heap.size 0 Xp) (by kernel_rfl) (blk_whole (Blk.drew KP.out)) (fun hHeld => ?_)
      refine tk 0 hHeld ?_
      refine tk 1 hHeld ?_
      refine tk 2 hHeld ?_
      refine tk 3 hHeld ?_
      refine tkl 4 rfl (yieldsIf_load_mid (by rfl) _ _ rfl _ _ rfl _ _ (fun _ h => h) Tryz.underlying43 rfl HSz.out) hHeld ?_
      refine rd 5 (fun K hK => ?_)
      go_simp
      go_at_call 189
      refine (HWr.out _ r (R.getD r d0).1 (bdrw HB.out) HR.out).mono ?_
      rintro e w2 ⟨rfl, ht, hst⟩
      have KN := Lib.hid (hst.blk (Blk.drew KP.out) HP.out)
      have HTN := Lib.hid ht
      have HSN := Lib.hid ((Step.below (g := g) (v := v) (bdrw HB.out)).trans hst)
      clear ht hst HWr
      go_wp2_with fail
      refine hK.out _ _ (blk_whole KN.out) (fun hHeld => ?_)
      clear hK K
      refine wpAnyH_done (by kernel_rfl) ?_ _
      clear hHeld KN KP
      go_wp2
      go_ret
      have e1 : tpuE s R row P = 0 := by unfold tpuE; rw [HBF.out, HBT.out]; rfl
      have e2 : tpuR s R row P = R.set r ((R.getD r d0).1, P) := by unfold tpuR; rw [e1, HR.out]; rfl
      obtain ⟨o1, o2⟩ := step_out HLL.out HSN.out
      refine ⟨foot g v, by rw [e1]; rfl, ?_, o1, o2⟩
      rw [e2]
      exact ⟨v, tab_put HTN.out, fun _ => Iff.rfl, HSS.out, fit_set HFF.out HBF.out⟩

set_option maxHeartbeats 4000000 in
set_option maxRecDepth 100000 in
theorem tadd_any (w : World) (g : Nat) (L : Nat → Prop) (s : Int) (R : TR) (id : Int) (P : PT) (hR : R.length ≤ 1000) (h : TBl w g L s R) :
    Calls Tryz.prog 128 #[.pointer (some ⟨g, 0, none⟩), .int .i64 id, .agg (pl P).toArray] w fun e w' => ∃ L', e = .returned (.tuple #[.int .i64 (tadN s R id P), .int .i64 (tadE s R id P)]) ∧ TBl w' g L' s (tadR s R id P) ∧ Fr w w' L ∧ ∀ b, L' b → L b ∨ w.heap.size ≤ b := by
  obtain ⟨v, h1, hL, hs, hf⟩ := h
  have HT0 := Lib.hid h1
  have HLL := Lib.hid hL
  have HSS := Lib.hid hs
  have HFF := Lib.hid hf
  have hg := h1.blk.lt
  have HSz := Lib.hid (pl_size P)
  have HP : Hid (¬ foot g v w.heap.size) := Lib.hid (fun c => by have := h1.inb _ c; omega)
  obtain ⟨bf, hbf⟩ : ∃ bf, fitsB s P = bf := ⟨_, rfl⟩
  have HFi : Hid (∀ u, Below w.heap.size w u → Calls Tryz.prog 162 #[.pointer (some ⟨g, 0, none⟩), .agg (pl P).toArray] u fun e w' => e = .returned (.bool bf) ∧ Below u.heap.size u w') := Lib.hid (fun u k => fits_any (h1.keep k) P hbf)
  obtain ⟨q, hq⟩ : ∃ q, findI R id = q := ⟨_, rfl⟩
  have HFd : Hid (∀ u, Below w.heap.size w u → Calls Tryz.prog 120 #[.pointer (some ⟨g, 0, none⟩), .int .i64 id] u fun e w' => e = .returned (.int .i64 q) ∧ u = w') := Lib.hid (fun u k => hq ▸ find_any (h1.keep k) hR id)
  have HLe : Hid (∀ u, Below w.heap.size w u → Calls Tryz.prog 163 #[.pointer (some ⟨g, 1, none⟩), .int .i64 id, .agg (pl P).toArray] u fun e w' => e = .returned (.tuple #[]) ∧ ∃ v', Tab w' g s v' (addKs (kindsL P.1) (Rs s R) (id, P)) ∧ Step u w' g v v') := Lib.hid (fun u k => by
    obtain ⟨hh, M, m, B, p, a, c, l⟩ := P
    exact lengthen_any (h1.keep k) (rs_len8 hR) id hh M m B p a c l)
  have HBF := Lib.hid hbf
  have HQ := Lib.hid hq
  obtain ⟨Xp, hXp⟩ : ∃ Xp, Xp = pl P := ⟨_, rfl⟩
  rw [← hXp] at HSz HFi HLe
  rw [← hXp]
  clear hXp h1 hL hs hf hbf hq
  have KP := Lib.hid (Blk.new w 43 Xp.toArray)
  have HB : Hid (Below w.heap.size w (w.alloc (.cells Xp.toArray 43))) := Lib.hid (alloc_below _ _)
  go_enter Tryz.func128, Tryz.ntmps128
  go_wp2_with (refine wpList_load_mid rfl 43 (.tmp 5) rfl w.heap.size 0 rfl Xp _ (blk_whole KP.out) Tryz.underlying43 rfl HSz.out ?_)
  refine (HFi.out _ HB.out).mono ?_
  rintro e w1 ⟨rfl, b1⟩
  replace KP := Lib.hid (Blk.keep KP.out b1)
  replace HB := Lib.hid (bthen HB.out b1)
  clear b1 HFi
  cases bf with
  | false =>
    go_wp2
    go_ret2
    obtain ⟨_, _, e1, e2, e3⟩ := fits_no HBF.out R 0 id
    refine ⟨L, by rw [e1, e2]; rfl, ?_, ?_, fun b hb => Or.inl hb⟩
    · rw [e3]; exact TBl.keep ⟨v, HT0.out, HLL.out, HSS.out, HFF.out⟩ HB.out
    · exact ⟨HB.out.os, HB.out.tape, HB.out.output, HB.out.size, fun k hk _ => HB.out.block k hk⟩
  | true =>
    go_wp2_with fail
    refine (HFd.out _ HB.out).mono ?_
    rintro e w2 ⟨rfl, rfl⟩
    clear HFd
    by_cases hi : hasId R id = true
    · have q0 : 0 ≤ q := HQ.out ▸ has_find hi
      have HI := Lib.hid hi
      clear hi
      go_wp2
      go_ret2
      have e1 : tadE s R id P = 5 := by unfold tadE; rw [HBF.out, HI.out]; rfl
      have e2 : tadN s R id P = 0 := by unfold tadN; rw [e1]; rfl
      refine ⟨L, by rw [e1, e2]; rfl, ?_, ?_, fun b hb => Or.inl hb⟩
      · unfold tadR; rw [e1]; exact TBl.keep ⟨v, HT0.out, HLL.out, HSS.out, HFF.out⟩ HB.out
      · exact ⟨HB.out.os, HB.out.tape, HB.out.output, HB.out.size, fun k hk _ => HB.out.block k hk⟩
    · have hi' : hasId R id = false := by simpa using hi
      obtain rfl : q = -1 := HQ.out ▸ hasnt_find hi'
      have HI := Lib.hid hi'
      clear hi hi'
      go_upto_region 5 with fail
      refine wp_region_held_drew (S := fun w' => w'.rangeAt w.heap.size 0 Xp) (by kernel_rfl) (blk_whole (Blk.drew KP.out)) (fun hHeld => ?_)
      refine tk 0 hHeld ?_
      refine tk 1 hHeld ?_
      refine tk 2 hHeld ?_
      refine tk 3 hHeld ?_
      refine tkl 4 rfl (yieldsIf_load_mid (by rfl) _ _ rfl _ _ rfl _ _ (fun _ h => h) Tryz.underlying43 rfl HSz.out) hHeld ?_
      refine rd 5 (fun K hK => ?_)
      go_simp
      go_at_call 163
      refine (HLe.out _ (bdrw HB.out)).mono ?_
      rintro e w2 ⟨rfl, v2, ht, hst⟩
      have KN := Lib.hid (hst.blk (Blk.drew KP.out) HP.out)
      have hp1 : P.1 = s := by
        have := HBF.out
        unfold fitsB at this
        rw [Bool.and_eq_true, beq_iff_eq] at this
        exact this.2
      rw [hp1] at ht
      have HTN := Lib.hid (ht.ext (fun i hi => Rs_add s R (id, P) hi))
      have HSN := Lib.hid ((Step.below (g := g) (v := v) (bdrw HB.out)).trans hst)
      clear ht hst HLe hp1
      go_wp2_with fail
      refine hK.out _ _ (blk_whole KN.out) (fun hHeld => ?_)
      clear hK K
      refine wpAnyH_done (by kernel_rfl) ?_ _
      clear hHeld KN KP
      have hR' : ((R.length : Nat) : Int) ≤ 1000 := by omega
      have HLn : Hid (Calls Tryz.prog 142 #[.pointer (some ⟨g, 0, none⟩)] w2 fun e w' => e = .returned (.int .i64 ((R.length : Int) + 1)) ∧ w2 = w') := Lib.hid ((tlen_any HTN.out).mono fun _ _ k => ⟨by rw [k.1, Rs0, List.length_append]; rfl, k.2⟩)
      go_wp2_with fail
      refine HLn.out.mono ?_
      rintro e w3 ⟨rfl, rfl⟩
      clear HLn
      go_wp2
      go_ret2
      have e1 : tadE s R id P = 0 := by unfold tadE; rw [HBF.out, HI.out]; rfl
      have e2 : tadN s R id P = (R.length : Int) := by unfold tadN; rw [e1]; rfl
      have e3 : tadR s R id P = R ++ [(id, P)] := by unfold tadR; rw [e1]; rfl
      obtain ⟨o1, o2⟩ := step_out HLL.out HSN.out
      refine ⟨foot g v2, by rw [e1, e2]; rfl, ?_, o1, o2⟩
      rw [e3]
      exact ⟨v2, HTN.out, fun _ => Iff.rfl, HSS.out, fit_add HFF.out HBF.out⟩

set_option maxHeartbeats 4000000 in
set_option maxRecDepth 100000 in
theorem tcut_any (w : World) (g : Nat) (L : Nat → Prop) (s : Int) (R : TR) (row : Int) (hR : R.length ≤ 1000) (h : TBl w g L s R) :
    Calls Tryz.prog 133 #[.pointer (some ⟨g, 0, none⟩), .int .i64 row] w fun e w' => ∃ L', e = .returned (.tuple #[.int .i64 (tcuV R row), .int .i64 (tcuE R row)]) ∧ TBl w' g L' s (tcuR R row) ∧ Fr w w' L ∧ ∀ b, L' b → L b ∨ w.heap.size ≤ b := by
  have HTB := Lib.hid h
  obtain ⟨v, h1, hL, hs, hf⟩ := h
  have HLL := Lib.hid hL
  have HSS := Lib.hid hs
  have HFF := Lib.hid hf
  have hg := h1.blk.lt
  obtain ⟨bt, hbt⟩ : ∃ bt, inR R row = bt := ⟨_, rfl⟩
  have HTh : Hid (Calls Tryz.prog 121 #[.pointer (some ⟨g, 0, none⟩), .int .i64 row] w fun e w' => e = .returned (.bool bt) ∧ w = w') := Lib.hid (there_any h1 row (X := Rs s R) hbt)
  have HSh : Hid (∀ r : Nat, row = (r : Int) → Calls Tryz.prog 167 #[.pointer (some ⟨g, 1, none⟩), .int .i64 row] w fun e w' => e = .returned (.tuple #[]) ∧ ∃ v', Tab w' g s v' (fun i => cutL (Rs s R i) r) ∧ Step w w' g v v') := Lib.hid (fun r e => by rw [e]; exact shorten_any h1 (rs_len8 hR) r)
  have HBT := Lib.hid hbt
  clear h1 hL hs hf hbt
  cases bt with
  | false =>
    go_enter Tryz.func133, Tryz.ntmps133
    go_wp2_with fail
    refine HTh.out.mono ?_
    rintro e w1 ⟨rfl, rfl⟩
    go_wp2
    go_ret2
    have e1 : tcuE R row = 4 := by unfold tcuE; rw [HBT.out]; rfl
    have e2 : tcuV R row = -1 := by unfold tcuV; rw [HBT.out]; rfl
    have e3 : tcuR R row = R := by unfold tcuR; rw [HBT.out]; rfl
    refine ⟨L, by rw [e1, e2]; rfl, by rw [e3]; exact HTB.out, ⟨rfl, rfl, rfl, Nat.le_refl _, fun _ _ _ => rfl⟩, fun b hb => Or.inl hb⟩
  | true =>
    obtain ⟨r, hr, hlt⟩ := inR_nat HBT.out
    have e1 : Hid (tcuE R row = 0) := Lib.hid (by unfold tcuE; rw [HBT.out]; rfl)
    have e3 : Hid (tcuR R row = cutL R r) := Lib.hid (by unfold tcuR cutL; rw [HBT.out, if_pos hlt, hr]; rfl)
    have hcl : (cutL R r).length = R.length - 1 := by unfold cutL; rw [if_pos hlt, List.length_take, List.length_set]; omega
    have HCL := Lib.hid hcl
    have HR := Lib.hid hr
    have HRl := Lib.hid hlt
    clear hr hlt hcl
    go_enter Tryz.func133, Tryz.ntmps133
    go_wp2_with fail
    refine HTh.out.mono ?_
    rintro e w1 ⟨rfl, rfl⟩
    go_wp2_with fail
    refine (HSh.out r HR.out).mono ?_
    rintro e w1 ⟨rfl, v', ht, hst⟩
    have HTN := Lib.hid (ht.ext (fun i _ => Rs_cut s R r i))
    have HSN := Lib.hid hst
    clear ht hst HTh HSh
    have hgw : g < w1.heap.size := HTN.out.blk.lt
    by_cases hend : r + 1 < R.length
    · have HTh : Hid (Calls Tryz.prog 121 #[.pointer (some ⟨g, 0, none⟩), .int .i64 row] w1 fun e w' => e = .returned (.bool true) ∧ w1 = w') := Lib.hid (there_any HTN.out row (by
        rw [Rs0, HCL.out, HR.out]
        unfold thB
        rw [Bool.and_eq_true, decide_eq_true_eq, decide_eq_true_eq]
        omega))
      obtain ⟨gi, cap, cur, hv0, hbk, hcap, hmax, _, _⟩ := (HTN.out.own 0 (by omega)).open_ (by rw [Rs0, HCL.out]; omega)
      have hown := HTN.out.own 0 (by omega)
      rw [hv0] at hown
      have ci := range1 (ColX.range (c := cId) (k := 1) (fun _ => rfl) hown (getD_at (i := r) (by rw [Rs0, HCL.out]; omega)))
      have cc : w1.cell? ⟨g, 1, none⟩ = some (v' 0) := (HTN.out.cell (j := 0) (by omega)).1
      rw [hv0] at cc
      have hgi := hbk.lt
      have ev : tcuV R row = ((Rs s (cutL R r) 0).getD r d0).1 := by
        unfold tcuV
        rw [HBT.out, HR.out, if_pos rfl, if_pos (by omega), Rs0]
        unfold cutL
        rw [if_pos HRl.out]
        congr 1
        rw [List.getD, List.getD, List.getElem?_take, if_pos (by omega), List.getElem?_set_self HRl.out]
        rfl
      have HEv := Lib.hid ev
      obtain ⟨x, hx⟩ : ∃ x, x = ((Rs s (cutL R r) 0).getD r d0).1 := ⟨_, rfl⟩
      rw [← hx] at ci HEv
      obtain ⟨n, hn⟩ : ∃ n, n = (Rs s (cutL R r) 0).length := ⟨_, rfl⟩
      have hn' : n = R.length - 1 := by rw [hn, Rs0, HCL.out]
      rw [← hn] at cc hcap
      have r0 : (0 : Int) ≤ row := by rw [HR.out]; omega
      have r1 : row < (n : Int) := by rw [HR.out]; omega
      have r2 : row.toNat = r := by rw [HR.out]; rfl
      unfold maxLen at hmax
      clear hn hx ev hown hbk hv0 hn'
      go_wp2_with fail
      refine HTh.out.mono ?_
      rintro e w2 ⟨rfl, rfl⟩
      clear HTh
      go_wp2
      go_ret2
      obtain ⟨o1, o2⟩ := step_out HLL.out HSN.out
      refine ⟨foot g v', by rw [e1.out, HEv.out]; rfl, ?_, o1, o2⟩
      rw [e3.out]
      exact ⟨v', HTN.out, fun _ => Iff.rfl, HSS.out, fit_cut HFF.out HRl.out⟩
    · have HTh : Hid (Calls Tryz.prog 121 #[.pointer (some ⟨g, 0, none⟩), .int .i64 row] w1 fun e w' => e = .returned (.bool false) ∧ w1 = w') := Lib.hid (there_any HTN.out row (by
        rw [Rs0, HCL.out, HR.out]
        unfold thB
        rw [Bool.and_eq_false_iff]
        exact Or.inr (by rw [decide_eq_false_iff_not]; omega)))
      have ev : Hid (tcuV R row = -1) := Lib.hid (by unfold tcuV; rw [HBT.out, HR.out, if_pos rfl, if_neg (by omega)])
      clear hend
      go_wp2_with fail
      refine HTh.out.mono ?_
      rintro e w2 ⟨rfl, rfl⟩
      clear HTh
      go_wp2
      go_ret2
      obtain ⟨o1, o2⟩ := step_out HLL.out HSN.out
      refine ⟨foot g v', by rw [e1.out, ev.out]; rfl, ?_, o1, o2⟩
      rw [e3.out]
      exact ⟨v', HTN.out, fun _ => Iff.rfl, HSS.out, fit_cut HFF.out HRl.out⟩

theorem trow_any (w : World) (g : Nat) (L : Nat → Prop) (s : Int) (R : TR) (row : Int) (hR : R.length ≤ 1000) (h : TBl w g L s R) :
    Calls Tryz.prog 86 #[.pointer (some ⟨g, 0, none⟩), .int .i64 row] w fun e w' => ∃ (x : Int) (P : PT), e = .returned (.tuple #[.int .i64 x, .agg (pl P).toArray, .bool (inR R row)]) ∧ (inR R row = true → (x, P) = R.getD row.toNat d0) ∧ Below w.heap.size w w' := by
  obtain ⟨v, h1, hL, hs, hf⟩ := h
  by_cases hi : inR R row = true
  · obtain ⟨r, hr, hlt⟩ := inR_nat hi
    rw [hi, hr]
    exact (row_yes h1 (rs_len8 hR) r hlt (pl (R.getD r d0).2) (rd_row hs hlt hf) (pl_one _)).mono fun e w' k => ⟨(R.getD r d0).1, (R.getD r d0).2, k.1, fun _ => rfl, k.2⟩
  · have hi' : inR R row = false := by simpa using hi
    rw [hi']
    exact (row_no h1 row hi').mono fun e w' k => ⟨0, zT, k.1, fun c => (by cases c), k.2⟩

/-- the landed table keeps the bundle -/
theorem tc_holds : TC TBl :=
  ⟨fun w w' g L s R h he => by
      obtain ⟨v, h1, hL, h2⟩ := h
      exact ⟨v, h1.same (fun b hb => he b ((hL b).2 hb)), hL, h2⟩,
   fun w g L s R h b hb => by
      obtain ⟨v, h1, hL, _⟩ := h
      exact h1.inb b ((hL b).1 hb),
   fun w s hs => new_any w s hs,
   fun w g L s R id P hR h => tadd_any w g L s R id P hR h,
   fun w g L s R row P hR h => tput_any w g L s R row P hR h,
   fun w g L s R row hR h => tcut_any w g L s R row hR h,
   fun w g L s R row hR h => trow_any w g L s R row hR h,
   fun w g L s R id hR h => by
      obtain ⟨v, h1, _⟩ := h
      exact (find_any h1 hR id).mono fun e w' k => ⟨k.1, k.2 ▸ Below.refl _ _⟩,
   fun w g L s R hR h => by
      obtain ⟨v, h1, _⟩ := h
      exact (tlen_any h1).mono fun e w' k => ⟨k.1, k.2 ▸ Below.refl _ _⟩⟩

end Go.Proofs.YtkondkajpmafkaaGreat
