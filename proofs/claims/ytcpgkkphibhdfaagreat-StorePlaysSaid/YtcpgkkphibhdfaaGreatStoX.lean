/-
  A step of the law StorePlays of layer 8, for any package that answers as the bundle says.
-/
import Derived.Test.YtcpgkkphibhdfaaGreatMStv
namespace Go.Proofs.YtcpgkkphibhdfaaGreat
open Go.RowKit

section
variable {SB : World → Nat → (Nat → Prop) → St → Prop}
set_option maxHeartbeats 8000000 in
set_option maxRecDepth 100000 in
theorem step8_any (hC : SC SB) {w0 w : World} {gp gr : Nat} {Fp Fq : Nat → Prop} {S : St} (h0 : Duo SB w0 w gp gr Fp Fq S S) (hW : WS S) (hB : Bd S 900) (x : A8) (hx : ok8 w0 x) (hn : x.n ≤ 80) :
    Calls Tryz.prog 9 #[.pointer (some ⟨gp, 0, none⟩), .pointer (some ⟨gr, 0, none⟩), .agg (c8 x).toArray] w fun e w' => e = .returned (.bool true) ∧ ∃ Fp' Fq', Duo SB w0 w' gp gr Fp' Fq' (doS S x) (doS S x) := by
  have HK := Lib.hid hx
  have hk0 := hx.1
  have hk1 := hx.2.1
  have HAt : Hid (0 ≤ x.at_ ∧ x.at_ ≤ 255) := Lib.hid ⟨hx.2.2.1, hx.2.2.2.1⟩
  have HW := Lib.hid hW
  have HBd : Hid (Bd S 1000) := Lib.hid (hB.mono (by omega))
  have HCl : Hid (S.ch.length + 2 ≤ 1000) := Lib.hid (by have := hB.1; omega)
  have HN1 := hB.2.2.2.1
  have HN2 := hB.2.2.2.2.1
  have HA : Hid (Below w.heap.size w (w.alloc (.cells (c8 x).toArray 47))) := Lib.hid (alloc_below _ _)
  have HD0 := Lib.hid (h0.keep hC HA.out)
  have HOw : Hid (Own (w.alloc (.cells (c8 x).toArray 47)) w.heap.size 47 (c8 x).toArray Fp Fq) := Lib.hid ⟨Blk.new w 47 (c8 x).toArray, fun c => by have := hC.inb w gp Fp S h0.sp _ c; omega, fun c => by have := h0.rb.inb _ c; omega⟩
  have HC8 : Hid (∀ u, Blk u w.heap.size 47 (c8 x).toArray → u.cell? ⟨w.heap.size, 0, none⟩ = some (.int .u8 x.k) ∧ u.cell? ⟨w.heap.size, 3, none⟩ = some (.int .i64 x.id) ∧ u.cell? ⟨w.heap.size, 28, none⟩ = some (.slice x.a x.n x.cap) ∧ u.rangeAt w.heap.size 4 (pl x.P) ∧ u.rangeAt w.heap.size 0 (c8 x)) := Lib.hid (fun u k => ⟨k.cell 0, k.cell 3, k.cell 28, blk_range k 4 24, blk_whole k⟩)
  have HSz := Lib.hid (c8_size x)
  have HIA : Hid (∀ u a cap, Row u a (alS S).length (alS S) → Calls Tryz.prog 27 #[.agg (c8 x).toArray, .slice a (alS S).length cap] u fun e w' => e = .returned (.int .i64 (idA S x)) ∧ Below u.heap.size u w') := Lib.hid (fun u a cap hr => actid_any x a (alS S).length cap (alS S) u HAt.out (by have := all_len S.G S.L 256; unfold alS; omega) hr)
  obtain ⟨y, hy⟩ : ∃ y, y = idA S x := ⟨_, rfl⟩
  have HY := Lib.hid hy
  rw [← hy] at HIA
  obtain ⟨X, hX⟩ : ∃ X, X = c8 x := ⟨_, rfl⟩
  rw [← hX] at HA HD0 HOw HC8 HSz HIA ⊢
  have hk10 : 0 ≤ x.k % 10 ∧ x.k % 10 < 10 := by omega
  clear hX h0 hx hW hB hy HA
  go_enter Tryz.func9, Tryz.ntmps9
  go_upto_region 1 with fail
  refine fin (fun W => Own W w.heap.size 47 X.toArray Fp Fq ∧ Duo SB w0 W gp gr Fp Fq S S) ⟨HOw.out, HD0.out⟩ ?_
  clear HOw HD0
  rintro W ⟨ka, hd⟩
  have KA : Hid (Own W.drew w.heap.size 47 X.toArray Fp Fq) := Lib.hid ⟨Blk.drew ka.1, ka.2⟩
  have HD := Lib.hid (hd.keep hC (w' := W.drew) ⟨rfl, rfl, rfl, Nat.le_refl _, fun _ _ => rfl⟩)
  clear ka hd
  refine wp_region_held_drew (S := fun w' => w'.rangeAt w.heap.size 0 X) (by kernel_rfl) ((HC8.out _ KA.out.1).2.2.2.2) (fun hHeld => ?_)
  refine wpAnyH_take (i := 0) (v := _) rfl (by kernel_rfl) (by kernel_rfl) (by kernel_rfl) (fun _ _ _ h => h) (yieldsIf_load_mid (by rfl) _ _ rfl _ _ rfl _ _ (fun _ h => h) Tryz.underlying47 rfl HSz.out) hHeld ?_
  simp only [Act.put, List.getElem_toArray, List.getElem_cons_zero, List.setIfInBounds_toArray, List.set_cons_zero, List.set_cons_succ]
  refine wpAnyH_take (i := 1) (v := ?_) rfl (by kernel_rfl) (by kernel_rfl) (by kernel_rfl) (fun _ _ _ h => h) (Or.inl ⟨by rfl, ?_⟩) hHeld ?_
  rotate_left
  · intro w hSw
    go_simp
    with_reducible rfl
  simp only [Act.put, List.getElem_toArray, List.getElem_cons_zero, List.getElem_cons_succ, List.setIfInBounds_toArray, List.set_cons_zero, List.set_cons_succ]
  refine wpAnyH_take (i := 2) (v := ?_) rfl (by kernel_rfl) (by kernel_rfl) (by kernel_rfl) (fun _ _ _ h => h) (Or.inl ⟨by rfl, ?_⟩) hHeld ?_
  rotate_left
  · intro w hSw
    go_simp
    with_reducible rfl
  simp only [Act.put, List.getElem_toArray, List.getElem_cons_zero, List.getElem_cons_succ, List.setIfInBounds_toArray, List.set_cons_zero, List.set_cons_succ]
  refine wpAnyH_take (i := 3) (v := ?_) rfl (by kernel_rfl) (by kernel_rfl) (by kernel_rfl) (fun _ _ _ h => h) (Or.inl ⟨by rfl, ?_⟩) hHeld ?_
  rotate_left
  · intro w hSw
    go_simp
    with_reducible rfl
  simp only [Act.put, List.getElem_toArray, List.getElem_cons_zero, List.getElem_cons_succ, List.setIfInBounds_toArray, List.set_cons_zero, List.set_cons_succ]
  refine wpAnyH_ready (rs := [4]) (by kernel_rfl) (by simp) ?_
  refine AllReadyH.cons rfl (fun K hK => ?_) AllReadyH.nil
  go_simp
  go_at_call 28
  refine (rall8 HD.out.rb HW.out).mono ?_
  rintro e w1 ⟨la, lcap, rfl, lrow, b1⟩
  have HLr := Lib.hid lrow
  clear lrow
  go_wp2_with fail
  refine hK.out _ _ ((HC8.out _ (KA.out.keep b1).1).2.2.2.2) (fun hHeld => ?_)
  clear hK K
  replace KA := Lib.hid (KA.out.keep b1)
  replace HD := Lib.hid (HD.out.keep hC b1)
  clear b1
  refine wpAnyH_ready (rs := [5]) (by kernel_rfl) (by simp) ?_
  refine AllReadyH.cons rfl (fun K hK => ?_) AllReadyH.nil
  go_simp
  go_at_call 27
  refine (HIA.out _ _ _ HLr.out).mono ?_
  rintro e w2 ⟨rfl, b1⟩
  go_wp2_with fail
  refine hK.out _ _ ((HC8.out _ (KA.out.keep b1).1).2.2.2.2) (fun hHeld => ?_)
  clear hK K
  replace KA := Lib.hid (KA.out.keep b1)
  replace HD := Lib.hid (HD.out.keep hC b1)
  clear b1 HLr HIA
  refine wpAnyH_take (i := 6) (v := ?_) rfl (by kernel_rfl) (by kernel_rfl) (by kernel_rfl) (fun _ _ _ h => h) (Or.inl ⟨by rfl, ?_⟩) hHeld ?_
  rotate_left
  · intro w hSw
    go_simp
    with_reducible rfl
  simp only [Act.put, List.getElem_toArray, List.getElem_cons_zero, List.getElem_cons_succ, List.setIfInBounds_toArray, List.set_cons_zero, List.set_cons_succ]
  refine wpAnyH_done (by kernel_rfl) ?_ _
  clear hHeld
  refine fin (fun W => Own W w.heap.size 47 X.toArray Fp Fq ∧ Duo SB w0 W gp gr Fp Fq S S) ⟨KA.out, HD.out⟩ ?_
  clear KA HD
  rintro W ⟨ka, hd⟩
  obtain ⟨d0, d3, d28, rP, -⟩ := HC8.out _ ka.1
  have hwl := ka.1.lt
  have HRP := Lib.hid rP
  have HPz := Lib.hid (pl_size x.P)
  have KA := Lib.hid ka
  have HD := Lib.hid hd
  have HRow : Hid (∀ u, Below w0.heap.size w0 u → Row u x.a x.n x.ks) := Lib.hid (fun u hb => row_keep HK.out.2.2.2.2 hb)
  have HAw : Hid (∀ F : Nat → Prop, (∀ b, F b → w0.heap.size ≤ b) → Aw F x.a x.n) := Lib.hid (fun F hF => aw_in HK.out.2.2.2.2 hF)
  clear ka hd rP
  have HDo : Hid (doS S x = if x.k % 10 = 3 then deS S y else if x.k % 10 = 4 ∨ x.k % 10 = 5 then puS S y x.P x.ks else if x.k % 10 = 6 ∨ x.k % 10 = 7 then cuS S y x.ks else if x.k % 10 = 8 then toS S [y, x.id] else if x.k % 10 = 9 then neS S else spS S x.P) := Lib.hid (by rw [HY.out]; rfl)
  have hcases : x.k % 10 = 0 ∨ x.k % 10 = 1 ∨ x.k % 10 = 2 ∨ x.k % 10 = 3 ∨ x.k % 10 = 4 ∨ x.k % 10 = 5 ∨ x.k % 10 = 6 ∨ x.k % 10 = 7 ∨ x.k % 10 = 8 ∨ x.k % 10 = 9 := by omega
  clear HK HY HAt
  obtain ⟨k, at_, any, id, P, aa, nn, cc, ks⟩ := x
  simp only at d0 d3 d28 HRP HPz HRow HDo hcases hk0 hk1 hn HAw hk10 HC8 ⊢
  rcases hcases with h | h | h | h | h | h | h | h | h | h
  · have HE : Hid (doS S ⟨k, at_, any, id, P, aa, nn, cc, ks⟩ = spS S P) := Lib.hid (by rw [HDo.out, h]; simp)
    clear HDo
    go_wp2_with (refine wpList_load_mid rfl 44 (.tmp 105) rfl w.heap.size 4 rfl (pl P) _ HRP.out Tryz.underlying44 rfl HPz.out ?_)
    refine (hC.spawn _ gp Fp S P HW.out HBd.out HD.out.sp).mono ?_
    rintro e w3 ⟨rfl, ch⟩
    obtain ⟨Fp', dd, oo⟩ := Duo.prog (HD.out) ch
    have kk := oo _ _ _ (KA.out)
    clear ch oo d0 d3 d28 HRP
    obtain ⟨d0, d3, d28, rP, -⟩ := HC8.out _ kk.1
    have hwl3 := kk.1.lt
    have HRP := Lib.hid rP
    replace KA := Lib.hid kk
    replace HD := Lib.hid dd
    clear kk dd rP HC8
    go_wp2_with (refine wpList_load_mid rfl 44 (.tmp 112) rfl w.heap.size 4 rfl (pl P) _ HRP.out Tryz.underlying44 rfl HPz.out ?_)
    refine (rspawn_any HD.out.rb HW.out HBd.out P).mono ?_
    rintro e w4 ⟨rfl, ch⟩
    obtain ⟨Fq', dd, -⟩ := Duo.ref hC (HD.out) ch
    have HZ := Lib.hid dd
    clear ch dd
    go_wp2
    go_ret
    exact ⟨by simp, Fp', Fq', by rw [HE.out]; exact HZ.out⟩
  · have HE : Hid (doS S ⟨k, at_, any, id, P, aa, nn, cc, ks⟩ = spS S P) := Lib.hid (by rw [HDo.out, h]; simp)
    clear HDo
    go_wp2_with (refine wpList_load_mid rfl 44 (.tmp 105) rfl w.heap.size 4 rfl (pl P) _ HRP.out Tryz.underlying44 rfl HPz.out ?_)
    refine (hC.spawn _ gp Fp S P HW.out HBd.out HD.out.sp).mono ?_
    rintro e w3 ⟨rfl, ch⟩
    obtain ⟨Fp', dd, oo⟩ := Duo.prog (HD.out) ch
    have kk := oo _ _ _ (KA.out)
    clear ch oo d0 d3 d28 HRP
    obtain ⟨d0, d3, d28, rP, -⟩ := HC8.out _ kk.1
    have hwl3 := kk.1.lt
    have HRP := Lib.hid rP
    replace KA := Lib.hid kk
    replace HD := Lib.hid dd
    clear kk dd rP HC8
    go_wp2_with (refine wpList_load_mid rfl 44 (.tmp 112) rfl w.heap.size 4 rfl (pl P) _ HRP.out Tryz.underlying44 rfl HPz.out ?_)
    refine (rspawn_any HD.out.rb HW.out HBd.out P).mono ?_
    rintro e w4 ⟨rfl, ch⟩
    obtain ⟨Fq', dd, -⟩ := Duo.ref hC (HD.out) ch
    have HZ := Lib.hid dd
    clear ch dd
    go_wp2
    go_ret
    exact ⟨by simp, Fp', Fq', by rw [HE.out]; exact HZ.out⟩
  · have HE : Hid (doS S ⟨k, at_, any, id, P, aa, nn, cc, ks⟩ = spS S P) := Lib.hid (by rw [HDo.out, h]; simp)
    clear HDo
    go_wp2_with (refine wpList_load_mid rfl 44 (.tmp 105) rfl w.heap.size 4 rfl (pl P) _ HRP.out Tryz.underlying44 rfl HPz.out ?_)
    refine (hC.spawn _ gp Fp S P HW.out HBd.out HD.out.sp).mono ?_
    rintro e w3 ⟨rfl, ch⟩
    obtain ⟨Fp', dd, oo⟩ := Duo.prog (HD.out) ch
    have kk := oo _ _ _ (KA.out)
    clear ch oo d0 d3 d28 HRP
    obtain ⟨d0, d3, d28, rP, -⟩ := HC8.out _ kk.1
    have hwl3 := kk.1.lt
    have HRP := Lib.hid rP
    replace KA := Lib.hid kk
    replace HD := Lib.hid dd
    clear kk dd rP HC8
    go_wp2_with (refine wpList_load_mid rfl 44 (.tmp 112) rfl w.heap.size 4 rfl (pl P) _ HRP.out Tryz.underlying44 rfl HPz.out ?_)
    refine (rspawn_any HD.out.rb HW.out HBd.out P).mono ?_
    rintro e w4 ⟨rfl, ch⟩
    obtain ⟨Fq', dd, -⟩ := Duo.ref hC (HD.out) ch
    have HZ := Lib.hid dd
    clear ch dd
    go_wp2
    go_ret
    exact ⟨by simp, Fp', Fq', by rw [HE.out]; exact HZ.out⟩
  · have HE : Hid (doS S ⟨k, at_, any, id, P, aa, nn, cc, ks⟩ = deS S y) := Lib.hid (by rw [HDo.out, h]; simp)
    clear HDo
    go_wp2_with fail
    refine (hC.despawn _ gp Fp S y HW.out HBd.out HD.out.sp).mono ?_
    rintro e w3 ⟨rfl, ch⟩
    obtain ⟨Fp', dd, oo⟩ := Duo.prog (HD.out) ch
    have kk := oo _ _ _ (KA.out)
    clear ch oo d0 d3 d28 HRP
    obtain ⟨d0, d3, d28, rP, -⟩ := HC8.out _ kk.1
    have hwl3 := kk.1.lt
    have HRP := Lib.hid rP
    replace KA := Lib.hid kk
    replace HD := Lib.hid dd
    clear kk dd rP HC8
    go_wp2_with fail
    refine (rdespawn8_any HD.out.rb HW.out HBd.out y).mono ?_
    rintro e w4 ⟨rfl, ch⟩
    obtain ⟨Fq', dd, -⟩ := Duo.ref hC (HD.out) ch
    have HZ := Lib.hid dd
    clear ch dd
    go_wp2
    go_ret
    exact ⟨by simp, Fp', Fq', by rw [HE.out]; exact HZ.out⟩
  · have HE : Hid (doS S ⟨k, at_, any, id, P, aa, nn, cc, ks⟩ = puS S y P ks) := Lib.hid (by rw [HDo.out, h]; simp)
    clear HDo
    go_wp2_with (refine wpList_load_mid rfl 44 (.tmp 41) rfl w.heap.size 4 rfl (pl P) _ HRP.out Tryz.underlying44 rfl HPz.out ?_)
    refine (hC.put _ gp Fp S y P aa nn cc ks HW.out HBd.out HD.out.sp (by omega) (HRow.out _ HD.out.bel) (HAw.out _ HD.out.fp)).mono ?_
    rintro e w3 ⟨rfl, ch⟩
    obtain ⟨Fp', dd, oo⟩ := Duo.prog (HD.out) ch
    have kk := oo _ _ _ (KA.out)
    clear ch oo d0 d3 d28 HRP
    obtain ⟨d0, d3, d28, rP, -⟩ := HC8.out _ kk.1
    have hwl3 := kk.1.lt
    have HRP := Lib.hid rP
    replace KA := Lib.hid kk
    replace HD := Lib.hid dd
    clear kk dd rP HC8
    go_wp2_with (refine wpList_load_mid rfl 44 (.tmp 49) rfl w.heap.size 4 rfl (pl P) _ HRP.out Tryz.underlying44 rfl HPz.out ?_)
    refine (rput8_any HD.out.rb HW.out HBd.out y P aa nn cc ks (HRow.out _ HD.out.bel)).mono ?_
    rintro e w4 ⟨rfl, ch⟩
    obtain ⟨Fq', dd, -⟩ := Duo.ref hC (HD.out) ch
    have HZ := Lib.hid dd
    clear ch dd
    go_wp2
    go_ret
    exact ⟨by simp, Fp', Fq', by rw [HE.out]; exact HZ.out⟩
  · have HE : Hid (doS S ⟨k, at_, any, id, P, aa, nn, cc, ks⟩ = puS S y P ks) := Lib.hid (by rw [HDo.out, h]; simp)
    clear HDo
    go_wp2_with (refine wpList_load_mid rfl 44 (.tmp 41) rfl w.heap.size 4 rfl (pl P) _ HRP.out Tryz.underlying44 rfl HPz.out ?_)
    refine (hC.put _ gp Fp S y P aa nn cc ks HW.out HBd.out HD.out.sp (by omega) (HRow.out _ HD.out.bel) (HAw.out _ HD.out.fp)).mono ?_
    rintro e w3 ⟨rfl, ch⟩
    obtain ⟨Fp', dd, oo⟩ := Duo.prog (HD.out) ch
    have kk := oo _ _ _ (KA.out)
    clear ch oo d0 d3 d28 HRP
    obtain ⟨d0, d3, d28, rP, -⟩ := HC8.out _ kk.1
    have hwl3 := kk.1.lt
    have HRP := Lib.hid rP
    replace KA := Lib.hid kk
    replace HD := Lib.hid dd
    clear kk dd rP HC8
    go_wp2_with (refine wpList_load_mid rfl 44 (.tmp 49) rfl w.heap.size 4 rfl (pl P) _ HRP.out Tryz.underlying44 rfl HPz.out ?_)
    refine (rput8_any HD.out.rb HW.out HBd.out y P aa nn cc ks (HRow.out _ HD.out.bel)).mono ?_
    rintro e w4 ⟨rfl, ch⟩
    obtain ⟨Fq', dd, -⟩ := Duo.ref hC (HD.out) ch
    have HZ := Lib.hid dd
    clear ch dd
    go_wp2
    go_ret
    exact ⟨by simp, Fp', Fq', by rw [HE.out]; exact HZ.out⟩
  · have HE : Hid (doS S ⟨k, at_, any, id, P, aa, nn, cc, ks⟩ = cuS S y ks) := Lib.hid (by rw [HDo.out, h]; simp)
    clear HDo
    go_wp2_with fail
    refine (hC.cut _ gp Fp S y aa nn cc ks HW.out HBd.out HD.out.sp (by omega) (HRow.out _ HD.out.bel) (HAw.out _ HD.out.fp)).mono ?_
    rintro e w3 ⟨rfl, ch⟩
    obtain ⟨Fp', dd, oo⟩ := Duo.prog (HD.out) ch
    have kk := oo _ _ _ (KA.out)
    clear ch oo d0 d3 d28 HRP
    obtain ⟨d0, d3, d28, rP, -⟩ := HC8.out _ kk.1
    have hwl3 := kk.1.lt
    have HRP := Lib.hid rP
    replace KA := Lib.hid kk
    replace HD := Lib.hid dd
    clear kk dd rP HC8
    go_wp2_with fail
    refine (rcut8_any HD.out.rb HW.out HBd.out y aa nn cc ks (HRow.out _ HD.out.bel)).mono ?_
    rintro e w4 ⟨rfl, ch⟩
    obtain ⟨Fq', dd, -⟩ := Duo.ref hC (HD.out) ch
    have HZ := Lib.hid dd
    clear ch dd
    go_wp2
    go_ret
    exact ⟨by simp, Fp', Fq', by rw [HE.out]; exact HZ.out⟩
  · have HE : Hid (doS S ⟨k, at_, any, id, P, aa, nn, cc, ks⟩ = cuS S y ks) := Lib.hid (by rw [HDo.out, h]; simp)
    clear HDo
    go_wp2_with fail
    refine (hC.cut _ gp Fp S y aa nn cc ks HW.out HBd.out HD.out.sp (by omega) (HRow.out _ HD.out.bel) (HAw.out _ HD.out.fp)).mono ?_
    rintro e w3 ⟨rfl, ch⟩
    obtain ⟨Fp', dd, oo⟩ := Duo.prog (HD.out) ch
    have kk := oo _ _ _ (KA.out)
    clear ch oo d0 d3 d28 HRP
    obtain ⟨d0, d3, d28, rP, -⟩ := HC8.out _ kk.1
    have hwl3 := kk.1.lt
    have HRP := Lib.hid rP
    replace KA := Lib.hid kk
    replace HD := Lib.hid dd
    clear kk dd rP HC8
    go_wp2_with fail
    refine (rcut8_any HD.out.rb HW.out HBd.out y aa nn cc ks (HRow.out _ HD.out.bel)).mono ?_
    rintro e w4 ⟨rfl, ch⟩
    obtain ⟨Fq', dd, -⟩ := Duo.ref hC (HD.out) ch
    have HZ := Lib.hid dd
    clear ch dd
    go_wp2
    go_ret
    exact ⟨by simp, Fp', Fq', by rw [HE.out]; exact HZ.out⟩
  · have HE : Hid (doS S ⟨k, at_, any, id, P, aa, nn, cc, ks⟩ = toS S [y, id]) := Lib.hid (by rw [HDo.out, h]; simp)
    clear HDo
    have HS2 := Lib.hid (HD.out.keep hC (alloc_below W (.cells #[.int .i64 y, .int .i64 id] 35)))
    have KA2 := Lib.hid (KA.out.keep (alloc_below W (.cells #[.int .i64 y, .int .i64 id] 35)))
    have HAw2 : Hid (Aw Fp (some ⟨W.heap.size, 0, none⟩) 2) := Lib.hid (aw_new2 (hC.inb _ gp Fp S HD.out.sp))
    go_wp2_with fail
    refine (hC.touch _ gp Fp S (some ⟨W.heap.size, 0, none⟩) 2 2 [y, id] HW.out HBd.out HS2.out.sp (by omega) (row2 _ _ _ _) HAw2.out).mono ?_
    rintro e w3 ⟨rfl, ch⟩
    obtain ⟨Fp', dd, oo⟩ := Duo.prog (HS2.out) ch
    have kk := oo _ _ _ (KA2.out)
    clear ch oo d0 d3 d28 HRP
    obtain ⟨d0, d3, d28, rP, -⟩ := HC8.out _ kk.1
    have hwl3 := kk.1.lt
    have HRP := Lib.hid rP
    replace KA := Lib.hid kk
    replace HD := Lib.hid dd
    clear kk dd rP HC8
    clear HS2 KA2 HAw2
    have HS2 := Lib.hid (HD.out.keep hC (alloc_below w3 (.cells #[.int .i64 y, .int .i64 id] 35)))
    have HAw2 : Hid (Aw Fq (some ⟨w3.heap.size, 0, none⟩) 2) := Lib.hid (aw_new2 HD.out.rb.inb)
    go_wp2_with fail
    refine (rtouch8_any HS2.out.rb (some ⟨w3.heap.size, 0, none⟩) 2 2 [y, id] HCl.out (row2 _ _ _ _) HAw2.out).mono ?_
    rintro e w4 ⟨rfl, ch⟩
    obtain ⟨Fq', dd, -⟩ := Duo.ref hC (HS2.out) ch
    have HZ := Lib.hid dd
    clear ch dd
    go_wp2
    go_ret
    exact ⟨by simp, Fp', Fq', by rw [HE.out]; exact HZ.out⟩
  · have HE : Hid (doS S ⟨k, at_, any, id, P, aa, nn, cc, ks⟩ = neS S) := Lib.hid (by rw [HDo.out, h]; simp)
    clear HDo
    go_wp2_with fail
    refine (hC.next _ gp Fp S HW.out HBd.out HD.out.sp).mono ?_
    rintro e w3 ⟨rfl, ch⟩
    obtain ⟨Fp', dd, oo⟩ := Duo.prog (HD.out) ch
    have kk := oo _ _ _ (KA.out)
    clear ch oo d0 d3 d28 HRP
    obtain ⟨d0, d3, d28, rP, -⟩ := HC8.out _ kk.1
    have hwl3 := kk.1.lt
    have HRP := Lib.hid rP
    replace KA := Lib.hid kk
    replace HD := Lib.hid dd
    clear kk dd rP HC8
    obtain ⟨⟨e1, e2, e3⟩, ch⟩ := rnext8 HD.out.rb
    obtain ⟨Fq', dd, -⟩ := Duo.ref hC HD.out ch
    have e4 := (rnext8 dd.rb).1.1
    have HZ := Lib.hid dd
    obtain ⟨nw, hnw⟩ : ∃ nw, nw = S.now := ⟨_, rfl⟩
    have e5 : (neS S).now = S.now + 1 := rfl
    rw [e5] at e4
    rw [← hnw] at e1 e4 HZ HN1 HN2 ⊢
    clear ch dd e5
    go_wp2
    go_ret
    exact ⟨by simp, Fp', Fq', by rw [HE.out]; have hz := HZ.out; rw [hnw] at hz; exact hz⟩
end
end Go.Proofs.YtcpgkkphibhdfaaGreat
