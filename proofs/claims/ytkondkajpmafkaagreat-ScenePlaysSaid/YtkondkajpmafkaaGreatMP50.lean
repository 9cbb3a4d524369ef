/-
  2 texts in one file, each with its own heading.
-/
import Derived.Test.YtkondkajpmafkaaGreatMP49
import Derived.Test.YtkondkajpmafkaaGreatMP41
/-
  No scene; the landed scene answers as the bundles of layer 11 say.
-/
namespace Go.Proofs.YtkondkajpmafkaaGreat
open Go.RowKit

structure XN : Prop where
  spawn : ∀ w : World, Calls Tryz.prog 22 #[.pointer none, .agg Z24.toArray, .int .i64 (-1)] w fun e w' => ∃ v, e = .returned (.tuple #[.int .i64 v, .int .i64 1]) ∧ Below w.heap.size w w'
  get : ∀ w : World, Calls Tryz.prog 17 #[.pointer none, .int .i64 0] w fun e w' => ∃ Y, e = .returned (.tuple #[.agg (List.toArray Y), .bool false]) ∧ PXs Y ∧ Below w.heap.size w w'
  parent : ∀ w : World, Calls Tryz.prog 43 #[.pointer none, .int .i64 0] w fun e w' => ∃ v, e = .returned (.tuple #[.int .i64 v, .bool false]) ∧ Below w.heap.size w w'
  node : ∀ w : World, Calls Tryz.prog 16 #[.pointer none, .int .i64 0] w fun e w' => ∃ Y, e = .returned (.tuple #[.agg (List.toArray Y), .bool false]) ∧ NXs Y 56 ∧ Below w.heap.size w w'
  despawn : ∀ w : World, Calls Tryz.prog 24 #[.pointer none, .int .i64 0] w fun e w' => e = .returned (.int .i64 1) ∧ Below w.heap.size w w'
  put : ∀ w : World, Calls Tryz.prog 30 #[.pointer none, .int .i64 0, .agg Z24.toArray, .slice none 0 0] w fun e w' => e = .returned (.int .i64 1) ∧ Below w.heap.size w w'
  cut : ∀ w : World, Calls Tryz.prog 31 #[.pointer none, .int .i64 0, .slice none 0 0] w fun e w' => e = .returned (.int .i64 1) ∧ Below w.heap.size w w'
  adopt : ∀ w : World, Calls Tryz.prog 23 #[.pointer none, .int .i64 0, .int .i64 1] w fun e w' => e = .returned (.int .i64 1) ∧ Below w.heap.size w w'
  free : ∀ w : World, Calls Tryz.prog 32 #[.pointer none, .int .i64 0] w fun e w' => e = .returned (.int .i64 1) ∧ Below w.heap.size w w'
  all : ∀ w : World, Calls Tryz.prog 15 #[.pointer none] w fun e w' => ∃ a cap, e = .returned (.slice a 0 cap) ∧ Below w.heap.size w w'
  changed : ∀ w : World, Calls Tryz.prog 18 #[.pointer none, .int .i64 0] w fun e w' => ∃ a cap, e = .returned (.slice a 0 cap) ∧ Below w.heap.size w w'
  gone : ∀ w : World, Calls Tryz.prog 19 #[.pointer none, .int .i64 0] w fun e w' => ∃ a cap, e = .returned (.slice a 0 cap) ∧ Below w.heap.size w w'
  tick : ∀ w : World, Calls Tryz.prog 13 #[.pointer none] w fun e w' => e = .returned (.int .i64 0) ∧ Below w.heap.size w w'
  next : ∀ w : World, Calls Tryz.prog 14 #[.pointer none] w fun e w' => e = .returned (.int .i64 0) ∧ Below w.heap.size w w'
set_option maxHeartbeats 2000000 in
set_option maxRecDepth 100000 in
theorem xnspawn (w : World) : Calls Tryz.prog 22 #[.pointer none, .agg Z24.toArray, .int .i64 (-1)] w fun e w' => ∃ v, e = .returned (.tuple #[.int .i64 v, .int .i64 1]) ∧ Below w.heap.size w w' := by
  obtain ⟨Z, hZ⟩ : ∃ Z, Z = Z24 := ⟨_, rfl⟩
  rw [← hZ]
  have HB : Hid (Below w.heap.size w (w.alloc (.cells Z.toArray 43))) := Lib.hid (alloc_below _ _)
  clear hZ
  go_enter Tryz.func22, Tryz.ntmps22
  go_wp2
  go_ret2
  exact ⟨_, rfl, HB.out⟩
set_option maxHeartbeats 2000000 in
set_option maxRecDepth 100000 in
theorem xnget (w : World) : Calls Tryz.prog 17 #[.pointer none, .int .i64 0] w fun e w' => ∃ Y, e = .returned (.tuple #[.agg (List.toArray Y), .bool false]) ∧ PXs Y ∧ Below w.heap.size w w' := by
  have K4 := Lib.hid (Blk.new w 43 Z24.toArray)
  have HB4 : Hid (Below w.heap.size w (w.alloc (.cells Z24.toArray 43))) := Lib.hid (alloc_below _ _)
  go_enter Tryz.func17, Tryz.ntmps17
  go_wp2_with fail
  refine (lentN _).mono ?_
  rintro e w1 ⟨rfl, rfl⟩
  go_wp2_with fail
  refine (nget _).mono ?_
  rintro e w1 ⟨Xp, rfl, hpx, b1⟩
  have HPX := Lib.hid hpx
  replace K4 := Lib.hid (K4.out.keep b1)
  replace HB4 := Lib.hid (bthen HB4.out b1)
  have HT4 : Hid (w1.there w.heap.size 0 Xp.toArray.size) := Lib.hid (blk_there K4.out (by rw [List.size_toArray, HPX.out.1]; exact Nat.le_refl 24))
  have L4 : Hid (Blk (w1.setCells w.heap.size 0 Xp) w.heap.size 43 Xp.toArray) := Lib.hid (blk_over K4.out (by rw [HPX.out.1]; rfl))
  clear b1 hpx
  go_wp2_with (refine wpList_store_mid rfl 43 (.tmp 4) (.tmp 10) rfl w.heap.size 0 Xp.toArray rfl rfl HT4.out HPX.out.2.2.1 HPX.out.2.2.2 ?_)
  refine fin (fun W => Blk W w.heap.size 43 Xp.toArray ∧ Below w.heap.size w W) ⟨L4.out, below_setCells _ HB4.out (Nat.le_refl _)⟩ ?_
  rintro W ⟨kr, hb⟩
  have hl := run_loadVar_mid W w.heap.size 0 43 Xp _ (blk_whole kr) Tryz.underlying43 rfl HPX.out.2.1
  try simp only [Go.Act.put, List.setIfInBounds_toArray, List.set_cons_zero, List.set_cons_succ]
  exact bodyPost_ret (v := .tuple #[.agg Xp.toArray, .bool false]) (results_cell2 Tryz.results17 rfl rfl hl) rfl ⟨Xp, rfl, HPX.out, hb⟩
set_option maxHeartbeats 2000000 in
set_option maxRecDepth 100000 in
theorem xnparent (w : World) : Calls Tryz.prog 43 #[.pointer none, .int .i64 0] w fun e w' => ∃ v, e = .returned (.tuple #[.int .i64 v, .bool false]) ∧ Below w.heap.size w w' := by
  go_enter Tryz.func43, Tryz.ntmps43
  go_wp2
  go_ret2
  exact ⟨_, rfl, Below.refl _ _⟩
set_option maxHeartbeats 4000000 in
set_option maxRecDepth 100000 in
theorem xnnode (w : World) : Calls Tryz.prog 16 #[.pointer none, .int .i64 0] w fun e w' => ∃ Y, e = .returned (.tuple #[.agg (List.toArray Y), .bool false]) ∧ NXs Y 56 ∧ Below w.heap.size w w' := by
  have HZ := Lib.hid (nx_flow n0d)
  have HBz := Lib.hid bldF_zero
  have KZ := Lib.hid (Blk.new w 56 (cNd n0d).toArray)
  have HB0 : Hid (Below w.heap.size w (w.alloc (.cells (cNd n0d).toArray 56))) := Lib.hid (alloc_below _ _)
  go_enter Tryz.func16, Tryz.ntmps16
  go_upto_region 1 with fail
  refine fin (fun W => Blk W w.heap.size 56 (cNd n0d).toArray ∧ Below w.heap.size w W) ⟨KZ.out, HB0.out⟩ ?_
  clear KZ HB0
  obtain ⟨XZ, hXZ⟩ : ∃ XZ, XZ = cNd n0d := ⟨_, rfl⟩
  rw [← hXZ] at HZ HBz
  rintro W ⟨kz, hbl⟩
  rw [← hXZ] at kz
  have KZ := Lib.hid kz
  have HB := Lib.hid hbl
  clear kz hbl hXZ
  go_wp2_with fail
  refine (xnget W).mono ?_
  rintro e w1 ⟨XP, rfl, hpx, b1⟩
  have HPX := Lib.hid hpx
  replace KZ := Lib.hid (KZ.out.keep b1)
  replace HB := Lib.hid (bthen HB.out b1)
  have hal : Below w1.heap.size w1 (w1.alloc (.cells Z24.toArray 43)) := alloc_below _ _
  have hbs : Below w1.heap.size w1 ((w1.alloc (.cells Z24.toArray 43)).setCells w1.heap.size 0 XP) := below_setCells XP hal (Nat.le_refl _)
  have HT6 : Hid ((w1.alloc (.cells Z24.toArray 43)).there w1.heap.size 0 XP.toArray.size) := Lib.hid (blk_there (Blk.new w1 _ _) (by rw [List.size_toArray, HPX.out.1]; exact Nat.le_refl 24))
  have HE6 : Hid (Blk ((w1.alloc (.cells Z24.toArray 43)).setCells w1.heap.size 0 XP) w.heap.size 56 XZ.toArray ∧ Below w.heap.size w ((w1.alloc (.cells Z24.toArray 43)).setCells w1.heap.size 0 XP)) := Lib.hid ⟨KZ.out.keep hbs, bthen HB.out hbs⟩
  clear b1 hal hbs hpx
  go_upto_region 2 with (refine wpList_store_mid rfl 43 (.tmp 6) (.tmp 15) rfl w1.heap.size 0 XP.toArray rfl rfl HT6.out HPX.out.2.2.1 HPX.out.2.2.2 ?_)
  refine fin (fun W => Blk W w.heap.size 56 XZ.toArray ∧ Below w.heap.size w W) HE6.out ?_
  clear HE6 HT6 KZ HB
  rintro W2 ⟨k4, hbl⟩
  have HT4 : Hid (W2.there w.heap.size 0 XZ.toArray.size) := Lib.hid (blk_there k4 (by rw [List.size_toArray]; omega))
  have L4 : Hid (Blk (W2.setCells w.heap.size 0 XZ) w.heap.size 56 XZ.toArray) := Lib.hid (blk_over k4 rfl)
  have HB := Lib.hid hbl
  clear k4 hbl
  go_wp2_with (first | refine wpList_bldz rfl 56 rfl (.agg XZ.toArray) HBz.out ?_ | refine wpList_store_mid rfl 56 (.tmp 4) (.tmp 19) rfl w.heap.size 0 XZ.toArray rfl rfl HT4.out HZ.out.sizea HZ.out.onea ?_)
  refine fin (fun W => Blk W w.heap.size 56 XZ.toArray ∧ Below w.heap.size w W) ⟨L4.out, below_setCells _ HB.out (Nat.le_refl _)⟩ ?_
  rintro W3 ⟨kr, hbl⟩
  have hl := run_loadVar_mid W3 w.heap.size 0 56 XZ _ (blk_whole kr) Tryz.underlying56 rfl HZ.out.size
  try simp only [Go.Act.put, List.setIfInBounds_toArray, List.set_cons_zero, List.set_cons_succ]
  exact bodyPost_ret (v := .tuple #[.agg XZ.toArray, .bool false]) (results_cell2 Tryz.results16 rfl rfl hl) rfl ⟨XZ, rfl, HZ.out, hbl⟩
set_option maxHeartbeats 2000000 in
set_option maxRecDepth 100000 in
theorem xndespawn (w : World) : Calls Tryz.prog 24 #[.pointer none, .int .i64 0] w fun e w' => e = .returned (.int .i64 1) ∧ Below w.heap.size w w' := by
  go_enter Tryz.func24, Tryz.ntmps24
  go_wp2_with fail
  refine (lentN _).mono ?_
  rintro e w1 ⟨rfl, rfl⟩
  go_wp2_with fail
  refine (ndespawn _).mono ?_
  rintro e w1 ⟨rfl, b1⟩
  have HB := Lib.hid b1
  clear b1
  go_wp2
  go_ret
  exact ⟨rfl, HB.out⟩
set_option maxHeartbeats 2000000 in
set_option maxRecDepth 100000 in
theorem xncut (w : World) : Calls Tryz.prog 31 #[.pointer none, .int .i64 0, .slice none 0 0] w fun e w' => e = .returned (.int .i64 1) ∧ Below w.heap.size w w' := by
  go_enter Tryz.func31, Tryz.ntmps31
  go_wp2_with fail
  refine (lentN _).mono ?_
  rintro e w1 ⟨rfl, rfl⟩
  go_wp2_with fail
  refine (ncut _).mono ?_
  rintro e w1 ⟨rfl, b1⟩
  have HB := Lib.hid b1
  clear b1
  go_wp2
  go_ret
  exact ⟨rfl, HB.out⟩
set_option maxHeartbeats 2000000 in
set_option maxRecDepth 100000 in
theorem xnput (w : World) : Calls Tryz.prog 30 #[.pointer none, .int .i64 0, .agg Z24.toArray, .slice none 0 0] w fun e w' => e = .returned (.int .i64 1) ∧ Below w.heap.size w w' := by
  have HPu : Hid (∀ u, Calls Tryz.prog 63 #[.pointer none, .int .i64 0, .agg Z24.toArray, .slice none 0 0] u fun e w' => e = .returned (.int .i64 1) ∧ Below u.heap.size u w') := Lib.hid nput
  have HSz := Lib.hid (pl_size zT)
  rw [show pl zT = Z24 from rfl] at HSz
  obtain ⟨Xp, hXp⟩ : ∃ Xp, Xp = Z24 := ⟨_, rfl⟩
  rw [← hXp] at HPu HSz ⊢
  have KP := Lib.hid (Blk.new w 43 Xp.toArray)
  have HB1 : Hid (Below w.heap.size w (w.alloc (.cells Xp.toArray 43))) := Lib.hid (alloc_below _ _)
  clear hXp
  go_enter Tryz.func30, Tryz.ntmps30
  go_upto_region 1 with fail
  refine fin (fun W => W.rangeAt w.heap.size 0 Xp ∧ Below w.heap.size w W ∧ w.heap.size < W.heap.size) ⟨blk_whole KP.out, HB1.out, KP.out.lt⟩ ?_
  clear KP HB1
  rintro W0 ⟨r0, hb0, zb⟩
  have HB1 := Lib.hid hb0
  have HR0 := Lib.hid r0
  clear hb0
  refine wp_region_held_drew (S := fun w' => w'.rangeAt w.heap.size 0 Xp) (by kernel_rfl) (r0) (fun hHeld => ?_)
  refine tk 0 hHeld ?_
  refine tk 2 hHeld ?_
  refine tkl 3 rfl (yieldsIf_load_mid (by rfl) _ _ rfl _ _ rfl _ _ (fun _ h => h) Tryz.underlying43 rfl HSz.out) hHeld ?_
  refine tk 4 hHeld ?_
  refine rd 1 (fun K hK => ?_)
  go_simp
  go_at_call 47
  refine (lentN _).mono ?_
  rintro e w2 ⟨rfl, rfl⟩
  go_wp2_with fail
  refine hK.out _ _ (r0) (fun hHeld => ?_)
  clear hK K
  refine rd 5 (fun K hK => ?_)
  go_simp
  go_at_call 63
  refine (HPu.out _).mono ?_
  rintro e w3 ⟨rfl, b3⟩
  have HP := Lib.hid (bthen (bthen HB1.out (drew_below _)) b3)
  have HR3 := Lib.hid (range_same HR0.out (b3.block _ zb))
  clear b3
  go_wp2_with fail
  refine hK.out _ _ (HR3.out) (fun hHeld => ?_)
  clear hK K
  refine tk 6 hHeld ?_
  refine wpAnyH_done (by kernel_rfl) ?_ _
  clear hHeld r0 zb HPu HR0 HR3
  go_wp2
  go_ret
  exact ⟨rfl, HP.out⟩
set_option maxHeartbeats 2000000 in
set_option maxRecDepth 100000 in
theorem xnadopt (w : World) : Calls Tryz.prog 23 #[.pointer none, .int .i64 0, .int .i64 1] w fun e w' => e = .returned (.int .i64 1) ∧ Below w.heap.size w w' := by
  go_enter Tryz.func23, Tryz.ntmps23
  go_wp2
  go_ret
  exact ⟨rfl, Below.refl _ _⟩
set_option maxHeartbeats 2000000 in
set_option maxRecDepth 100000 in
theorem xnfree (w : World) : Calls Tryz.prog 32 #[.pointer none, .int .i64 0] w fun e w' => e = .returned (.int .i64 1) ∧ Below w.heap.size w w' := by
  go_enter Tryz.func32, Tryz.ntmps32
  go_wp2
  go_ret
  exact ⟨rfl, Below.refl _ _⟩
set_option maxHeartbeats 2000000 in
set_option maxRecDepth 100000 in
theorem xnall (w : World) : Calls Tryz.prog 15 #[.pointer none] w fun e w' => ∃ a cap, e = .returned (.slice a 0 cap) ∧ Below w.heap.size w w' := by
  go_enter Tryz.func15, Tryz.ntmps15
  go_wp2_with fail
  refine (lentN _).mono ?_
  rintro e w1 ⟨rfl, rfl⟩
  go_wp2_with fail
  refine (nall _).mono ?_
  rintro e w1 ⟨rfl, rfl⟩
  go_wp2
  go_ret
  exact ⟨none, 0, rfl, Below.refl _ _⟩
set_option maxHeartbeats 2000000 in
set_option maxRecDepth 100000 in
theorem xnchanged (w : World) : Calls Tryz.prog 18 #[.pointer none, .int .i64 0] w fun e w' => ∃ a cap, e = .returned (.slice a 0 cap) ∧ Below w.heap.size w w' := by
  go_enter Tryz.func18, Tryz.ntmps18
  go_wp2_with fail
  refine (lentN _).mono ?_
  rintro e w1 ⟨rfl, rfl⟩
  go_wp2_with fail
  refine (nchanged _).mono ?_
  rintro e w1 ⟨a, cap, rfl, b1⟩
  have HB := Lib.hid b1
  clear b1
  go_wp2
  go_ret
  exact ⟨a, cap, rfl, HB.out⟩
set_option maxHeartbeats 2000000 in
set_option maxRecDepth 100000 in
theorem xngone (w : World) : Calls Tryz.prog 19 #[.pointer none, .int .i64 0] w fun e w' => ∃ a cap, e = .returned (.slice a 0 cap) ∧ Below w.heap.size w w' := by
  go_enter Tryz.func19, Tryz.ntmps19
  go_wp2_with fail
  refine (lentN _).mono ?_
  rintro e w1 ⟨rfl, rfl⟩
  go_wp2_with fail
  refine (ngone _).mono ?_
  rintro e w1 ⟨a, cap, rfl, b1⟩
  have HB := Lib.hid b1
  clear b1
  go_wp2
  go_ret
  exact ⟨a, cap, rfl, HB.out⟩
set_option maxHeartbeats 2000000 in
set_option maxRecDepth 100000 in
theorem xntick (w : World) : Calls Tryz.prog 13 #[.pointer none] w fun e w' => e = .returned (.int .i64 0) ∧ Below w.heap.size w w' := by
  go_enter Tryz.func13, Tryz.ntmps13
  go_wp2_with fail
  refine (lentN _).mono ?_
  rintro e w1 ⟨rfl, rfl⟩
  go_wp2_with fail
  refine (ntick _).mono ?_
  rintro e w1 ⟨rfl, b1⟩
  have HB := Lib.hid b1
  clear b1
  go_wp2
  go_ret
  exact ⟨rfl, HB.out⟩
set_option maxHeartbeats 2000000 in
set_option maxRecDepth 100000 in
theorem xnnext (w : World) : Calls Tryz.prog 14 #[.pointer none] w fun e w' => e = .returned (.int .i64 0) ∧ Below w.heap.size w w' := by
  go_enter Tryz.func14, Tryz.ntmps14
  go_wp2_with fail
  refine (lentN _).mono ?_
  rintro e w1 ⟨rfl, rfl⟩
  go_wp2_with fail
  refine (nnext _).mono ?_
  rintro e w1 ⟨rfl, b1⟩
  have HB := Lib.hid b1
  clear b1
  go_wp2
  go_ret
  exact ⟨rfl, HB.out⟩
theorem xn_holds : XN := ⟨xnspawn, xnget, xnparent, xnnode, xndespawn, xnput, xncut, xnadopt, xnfree, xnall, xnchanged, xngone, xntick, xnnext⟩
theorem scx_holds : SCx LSB :=
  ⟨fun _ _ _ _ _ ⟨ls, lt, ⟨p, mb, ts, Lf, gv, lab, h, hF⟩, hI⟩ he => ⟨ls, lt, ⟨p, mb, ts, Lf, gv, lab, h.same (fun b hb => he b ((hF b).2 hb)), hF⟩, hI⟩,
   fun _ _ _ _ ⟨_, _, ⟨_, _, _, _, _, _, h, hF⟩, _⟩ b hb => h.inb b ((hF b).1 hb),
   fun w r hr => lnew_any w r hr, fun w x hx => lbad_any w x hx, fun _ _ _ _ P hW hB h => lspawn_any h hW hB P, fun _ _ _ _ id hW hB h => ldespawn_any h hW hB id,
   fun _ _ _ _ id P a n cap ks hW hB h _ row _ => lput_any h hW hB id P a n cap ks row, fun _ _ _ _ id a n cap ks hW hB h _ row _ => lcut_any h hW hB id a n cap ks row,
   fun _ _ _ _ a n cap xs _ _ h hn row haw => ltouch_any h a n cap xs hn row haw, fun _ _ _ _ id hW hB h => lget_any h hW hB id, fun _ _ _ _ hW _ h => lallD_any h hW,
   fun _ _ _ _ _ _ h => ltick_any h, fun _ _ _ _ _ hB h => lnext_any h hB, fun _ _ _ _ since hW _ h => lchanged_any h hW since, fun _ _ _ _ since _ hB h => lgone_any h hB since⟩
theorem fcx_holds : FCx LFB where
  keep_ _ _ _ _ _ h he := h.keep_ he
  inb _ _ _ _ h := h.inb
  rng _ _ _ _ h := by
    obtain ⟨gp, gc, bl, cp, h1, _⟩ := h
    exact h1.rng
  new w := lfnew_any w
  set _ _ _ _ _ _ hW hL h hc hp := lset_any h hW hL hc hp
  free _ _ _ _ _ _ _ _ hW hL h hn hr ha hx := lfree_any h hW hL hn hr ha hx
  drop _ _ _ _ _ hW hL h hx := ldrop_any h hW hL hx
  parent _ _ _ _ _ _ _ h hx := by
    obtain ⟨gp, gc, bl, cp, h1, _⟩ := h
    exact (lparent_any h1 hx).mono fun _ _ q => ⟨q.1, q.2 ▸ Below.refl _ _⟩
theorem sl_holds : SL LSB := by
  rintro w g F S ⟨ls, lt, ⟨p, mb, ts, Lf, gv, lab, h, hF⟩, hI⟩
  refine ⟨p, fun u q => ?_⟩
  have h1 := h.keep q
  refine ⟨?_, h1.row.lt, fun x => qlive p S.room S.G S.L x u h1.pool⟩
  exact h1.row.cell (i := 0) (by omega)
theorem xc_holds : XC (LXB LSB LFB) where
  kb := kb_lxb scx_holds.kb fcx_holds.kb
  new w r hr := lnew11_any scx_holds fcx_holds w r hr
  bad w x hx := lbad11_any scx_holds w x hx
  spawn _ _ _ _ P p hW hB h hp := lspawn11_any scx_holds fcx_holds sl_holds h hW hB P p hp
  despawn _ _ _ _ id hW hB h hi := ldespawn11_any scx_holds fcx_holds h hW hB id hi
  put _ _ _ _ id P a n cap ks hW hB h hn row haw := lput11_any scx_holds fcx_holds h hW hB id P a n cap ks hn row haw
  cut _ _ _ _ id a n cap ks hW hB h hn row haw := lcut11_any scx_holds fcx_holds h hW hB id a n cap ks hn row haw
  adopt _ _ _ _ c p hW hB h hc hp := ladopt11_any scx_holds fcx_holds sl_holds h hW hB c p hc hp
  free _ _ _ _ c hW hB h hc := lfree11_any scx_holds fcx_holds sl_holds h hW hB c hc
  get _ _ _ _ id hW hB h := lget11_any scx_holds fcx_holds h hW hB id
  parent _ _ _ _ id hW hB h hi := lparent11_any scx_holds fcx_holds h hW hB id hi
  all _ _ _ _ hW hB h := lall11_any scx_holds fcx_holds h hW hB
  tick _ _ _ _ hW hB h := ltick11_any scx_holds fcx_holds h hW hB
  next _ _ _ _ hW hB h := lnext11_any scx_holds fcx_holds h hW hB
  changed _ _ _ _ since hW hB h := lchanged11_any scx_holds fcx_holds h hW hB since
  gone _ _ _ _ since hW hB h := lgone11_any scx_holds fcx_holds h hW hB since
  node _ _ _ _ id hW hB h hi := lnode11_any scx_holds fcx_holds h hW hB id hi
theorem ChB.step {α : Type} {B : World → Nat → (Nat → Prop) → α → Prop} {b0 : Nat} {w0 w1 w2 : World} {g : Nat} {F : Nat → Prop} {x : α} (h : ChB B w1 w2 g F x) (hb : Below b0 w0 w1) (hF : ∀ b, F b → b0 ≤ b) (hs : b0 ≤ w1.heap.size) : ∃ F', B w2 g F' x ∧ Below b0 w0 w2 ∧ (∀ b, F' b → b0 ≤ b) ∧ b0 ≤ w2.heap.size := by
  obtain ⟨F', h1, h2, h3⟩ := h
  exact ⟨F', h1, Fr.below h2 hb hF hs, fun b hb => (h3 b hb).elim (fun c => hF b c) (fun c => Nat.le_trans hs c), Nat.le_trans hs h2.2.2.2.1⟩
def q16 : PT := (16, zI, 0, zI, 0, 0, false, 0)
def x110 : Sc := Sc0 5
def x111 : Sc := xspS x110 zT (-1)
def x112 : Sc := xspS x111 q16 0
def x113 : Sc := xneS x112
def x114 : Sc := xadS x113 0 1
def x115 : Sc := xdeS x114 0
theorem t111 : xspV x110 zT (-1) = 0 ∧ xspE x110 zT (-1) = 0 := by decide +kernel
theorem t112 : xspV x111 q16 0 = 1 ∧ xspE x111 q16 0 = 0 := by decide +kernel
theorem t114 : xadE x113 0 1 = 8 := by decide +kernel
theorem t115 : deE x114.S 0 = 0 := by decide +kernel
theorem t116 : getB x115.S 1 = true ∧ (nodeX x115 1).par = -1 ∧ (nodeX x115 1).hid = true ∧ (nodeX x115 1).pl 0 = 65536 := by decide +kernel
theorem t117 : chL x115.S 1 = [1] := by decide +kernel
theorem t118 : goL x115.S 1 = [0] := by decide +kernel
theorem wx110 : WX x110 := WX.zero (by omega)
theorem wx111 : WX x111 := wx110.sp _ _
theorem wx112 : WX x112 := wx111.sp _ _
theorem wx113 : WX x113 := wx112.ne
theorem wx114 : WX x114 := wx113.ad _ _
theorem wx115 : WX x115 := wx114.de _
theorem bx110 : BSc x110 0 := BSc.zero (by omega)
theorem bx111 : BSc x111 2 := bx110.sp _ _
theorem bx112 : BSc x112 4 := bx111.sp _ _
theorem bx113 : BSc x113 6 := bx112.ne
theorem bx114 : BSc x114 8 := bx113.ad _ _
theorem bx115 : BSc x115 10 := bx114.de wx114 _
structure N15 (Y : List Value) : Prop where
  nx : NXs Y 56
  c1 : Y[1]? = some (.int .i64 (-1))
  c2 : Y[2]? = some (.int .i64 65536)
  c14 : Y[14]? = some (.bool true)
theorem n15_any (n : Nd) (h1 : n.par = -1) (h2 : n.hid = true) (h3 : n.pl 0 = 65536) : N15 (cNd n) := ⟨nx_flow n, by rw [← h1]; rfl, by rw [← h3]; rfl, by rw [← h2]; rfl⟩
section
variable {XB : World → Nat → (Nat → Prop) → Sc → Prop}
set_option maxHeartbeats 8000000 in
set_option maxRecDepth 100000 in
theorem alive11_walk (hK : KB XB) (T0 T1 T2 T3 T4 T5 : Sc) (hnew : ∀ w : World, Calls Tryz.prog 7 #[.int .i64 5] w fun e w' => ∃ g F, e = .returned (.tuple #[.pointer (some ⟨g, 0, none⟩), .int .i64 0]) ∧ XB w' g F T0 ∧ (∀ b, F b → w.heap.size ≤ b) ∧ Below w.heap.size w w')
    (HS1_ : ∀ u g F, XB u g F T0 → Calls Tryz.prog 22 #[.pointer (some ⟨g, 0, none⟩), .agg #[.int .i64 0, .int .i64 0, .int .i64 0, .int .i64 0, .int .i64 0, .int .i64 0, .int .i64 0, .int .i64 0, .int .i64 0, .int .i64 0, .int .i64 0, .int .i64 0, .int .i64 0, .int .i64 0, .int .i64 0, .int .i64 0, .int .i64 0, .int .i64 0, .int .i64 0, .int .i64 0, .int .i64 0, .int .i64 0, .bool false, .int .i64 0], .int .i64 (-1)] u fun e w' => e = .returned (.tuple #[.int .i64 0, .int .i64 0]) ∧ ChB XB u w' g F T1)
    (HS2_ : ∀ u g F, XB u g F T1 → Calls Tryz.prog 22 #[.pointer (some ⟨g, 0, none⟩), .agg #[.int .i64 16, .int .i64 0, .int .i64 0, .int .i64 0, .int .i64 0, .int .i64 0, .int .i64 0, .int .i64 0, .int .i64 0, .int .i64 0, .int .i64 0, .int .i64 0, .int .i64 0, .int .i64 0, .int .i64 0, .int .i64 0, .int .i64 0, .int .i64 0, .int .i64 0, .int .i64 0, .int .i64 0, .int .i64 0, .bool false, .int .i64 0], .int .i64 0] u fun e w' => e = .returned (.tuple #[.int .i64 1, .int .i64 0]) ∧ ChB XB u w' g F T2)
    (HNe_ : ∀ u g F, XB u g F T2 → Calls Tryz.prog 14 #[.pointer (some ⟨g, 0, none⟩)] u fun e w' => (∃ z : Int, e = .returned (.int .i64 z)) ∧ ChB XB u w' g F T3)
    (HAd_ : ∀ u g F, XB u g F T3 → Calls Tryz.prog 23 #[.pointer (some ⟨g, 0, none⟩), .int .i64 0, .int .i64 1] u fun e w' => e = .returned (.int .i64 8) ∧ ChB XB u w' g F T4)
    (HDe_ : ∀ u g F, XB u g F T4 → Calls Tryz.prog 24 #[.pointer (some ⟨g, 0, none⟩), .int .i64 0] u fun e w' => e = .returned (.int .i64 0) ∧ ChB XB u w' g F T5)
    (HNd_ : ∀ u g F, XB u g F T5 → Calls Tryz.prog 16 #[.pointer (some ⟨g, 0, none⟩), .int .i64 1] u fun e w' => ∃ Y, e = .returned (.tuple #[.agg (List.toArray Y), .bool true]) ∧ N15 Y ∧ Below u.heap.size u w')
    (HCh_ : ∀ u g F, XB u g F T5 → Calls Tryz.prog 18 #[.pointer (some ⟨g, 0, none⟩), .int .i64 1] u fun e w' => ∃ v, e = .returned v ∧ LRes u w' [1] v ∧ Below u.heap.size u w')
    (HGo_ : ∀ u g F, XB u g F T5 → Calls Tryz.prog 19 #[.pointer (some ⟨g, 0, none⟩), .int .i64 1] u fun e w' => ∃ v, e = .returned v ∧ LRes u w' [0] v ∧ Below u.heap.size u w')
    (w : World) :
    Calls Tryz.prog 6 #[] w fun e w' => e = .returned (.bool true) ∧ Below w.heap.size w w' := by
  have HK := Lib.hid hK
  have HS1 := Lib.hid HS1_
  have HS2 := Lib.hid HS2_
  have HNe := Lib.hid HNe_
  have HAd := Lib.hid HAd_
  have HDe := Lib.hid HDe_
  have HNd := Lib.hid HNd_
  have HCh := Lib.hid HCh_
  have HGo := Lib.hid HGo_
  clear hK HS1_ HS2_ HNe_ HAd_ HDe_ HNd_ HCh_ HGo_
  go_enter Tryz.func6, Tryz.ntmps6
  go_wp2_with fail
  refine (hnew w).mono ?_
  rintro e w1 ⟨g, F, rfl, sb, hF, b1⟩
  have HS := Lib.hid sb
  have HB := Lib.hid (And.intro b1 (And.intro hF b1.size))
  clear sb hF b1
  go_wp2_with fail
  refine (HS1.out _ g F HS.out).mono ?_
  rintro e w2 ⟨rfl, ch⟩
  obtain ⟨F1, sb, hb⟩ := ch.step HB.out.1 HB.out.2.1 HB.out.2.2
  replace HS := Lib.hid sb
  replace HB := Lib.hid hb
  clear ch sb hb HS1
  go_wp2_with fail
  refine (HS2.out _ g F1 HS.out).mono ?_
  rintro e w3 ⟨rfl, ch⟩
  obtain ⟨F2, sb, hb⟩ := ch.step HB.out.1 HB.out.2.1 HB.out.2.2
  replace HS := Lib.hid sb
  replace HB := Lib.hid hb
  clear ch sb hb HS2
  go_wp2_with fail
  refine (HNe.out _ g F2 HS.out).mono ?_
  rintro e w4 ⟨⟨z, rfl⟩, ch⟩
  obtain ⟨F3, sb, hb⟩ := ch.step HB.out.1 HB.out.2.1 HB.out.2.2
  replace HS := Lib.hid sb
  replace HB := Lib.hid hb
  clear ch sb hb HNe
  go_wp2_with fail
  refine (HAd.out _ g F3 HS.out).mono ?_
  rintro e w5 ⟨rfl, ch⟩
  obtain ⟨F4, sb, hb⟩ := ch.step HB.out.1 HB.out.2.1 HB.out.2.2
  replace HS := Lib.hid sb
  replace HB := Lib.hid hb
  clear ch sb hb HAd
  go_wp2_with fail
  refine (HDe.out _ g F4 HS.out).mono ?_
  rintro e w6 ⟨rfl, ch⟩
  obtain ⟨F5, sb, hb⟩ := ch.step HB.out.1 HB.out.2.1 HB.out.2.2
  replace HS := Lib.hid sb
  replace HB := Lib.hid hb
  clear ch sb hb HDe
  go_wp2_with fail
  refine (HNd.out _ g F5 HS.out).mono ?_
  rintro e w7 ⟨Y, rfl, hY, b7⟩
  have HY := Lib.hid hY
  have hal : Below w7.heap.size w7 (w7.alloc (.cells (cNd n0d).toArray 56)) := alloc_below _ _
  have hbs : Below w7.heap.size w7 ((w7.alloc (.cells (cNd n0d).toArray 56)).setCells w7.heap.size 0 Y) := below_setCells Y hal (Nat.le_refl _)
  have HT9 : Hid ((w7.alloc (.cells (cNd n0d).toArray 56)).there w7.heap.size 0 Y.toArray.size) := Lib.hid (blk_there (Blk.new w7 _ _) (by rw [List.size_toArray, HY.out.nx.len]; exact Nat.le_refl 15))
  have L9 : Hid (Blk ((w7.alloc (.cells (cNd n0d).toArray 56)).setCells w7.heap.size 0 Y) w7.heap.size 56 Y.toArray ∧ Below w.heap.size w ((w7.alloc (.cells (cNd n0d).toArray 56)).setCells w7.heap.size 0 Y) ∧ XB ((w7.alloc (.cells (cNd n0d).toArray 56)).setCells w7.heap.size 0 Y) g F5 T5) := Lib.hid ⟨blk_over (Blk.new w7 _ _) (by rw [HY.out.nx.len]; rfl), bthen (bthen HB.out.1 b7) hbs, HK.out.keep (HK.out.keep HS.out b7) hbs⟩
  clear hY b7 hal hbs HNd
  go_upto_region 8 with (refine wpList_store_mid rfl 56 (.tmp 9) (.tmp 41) rfl w7.heap.size 0 Y.toArray rfl rfl HT9.out HY.out.nx.sizea HY.out.nx.onea ?_)
  refine fin (fun W => Blk W w7.heap.size 56 Y.toArray ∧ Below w.heap.size w W ∧ XB W g F5 T5) L9.out ?_
  rintro W ⟨k9, hb, sb⟩
  have c1 : W.cell? ⟨w7.heap.size, 1, none⟩ = some (.int .i64 (-1)) := by rw [k9.cell 1]; simpa using HY.out.c1
  have c2 : W.cell? ⟨w7.heap.size, 2, none⟩ = some (.int .i64 65536) := by rw [k9.cell 2]; simpa using HY.out.c2
  have c14 : W.cell? ⟨w7.heap.size, 14, none⟩ = some (.bool true) := by rw [k9.cell 14]; simpa using HY.out.c14
  have hlt := k9.lt
  replace HB := Lib.hid hb
  replace HS := Lib.hid sb
  clear k9 hb sb L9 HT9
  go_wp2_with fail
  refine (HCh.out _ g F5 HS.out).mono ?_
  rintro e w8 ⟨v, rfl, ⟨la, lc, rfl, lr, -⟩, b1⟩
  have HR := Lib.hid (row_keep lr (alloc_below w8 (.cells #[.int .i64 1] 31)))
  replace HB := Lib.hid (bthen HB.out b1)
  replace HS := Lib.hid (HK.out.keep HS.out b1)
  clear lr b1 HCh c1 c2 c14 hlt
  go_wp2_with fail
  refine (psame_yes HR.out (row1 _ _ _)).mono ?_
  rintro e w9 ⟨rfl, b2⟩
  replace HS := Lib.hid (HK.out.keep (HK.out.keep HS.out (alloc_below w8 (.cells #[.int .i64 1] 31))) b2)
  replace HB := Lib.hid (bthen (balloc HB.out (.cells #[.int .i64 1] 31)) b2)
  clear HR b2
  go_wp2_with fail
  refine (HGo.out _ g F5 HS.out).mono ?_
  rintro e x9 ⟨v, rfl, ⟨lb, ld, rfl, lr, -⟩, b1⟩
  have HR := Lib.hid (row_keep lr (alloc_below x9 (.cells #[.int .i64 0] 31)))
  replace HB := Lib.hid (bthen HB.out b1)
  clear lr b1 HGo HS
  go_wp2_with fail
  refine (psame_yes HR.out (row1 _ _ _)).mono ?_
  rintro e w10 ⟨rfl, b2⟩
  replace HB := Lib.hid (bthen (balloc HB.out (.cells #[.int .i64 0] 31)) b2)
  clear HR b2
  go_wp2
  go_ret
  exact ⟨rfl, HB.out⟩
theorem alive11_any (hX : XC XB) (w : World) : Calls Tryz.prog 6 #[] w fun e w' => e = .returned (.bool true) ∧ Below w.heap.size w w' :=
  alive11_walk hX.kb x110 x111 x112 x113 x114 x115 (fun w => hX.new w 5 (by omega))
    (fun u g F h => (hX.spawn u g F x110 zT (-1) wx110 (bx110.mono (by omega)) h (by decide)).mono fun _ _ k => ⟨by rw [k.1, t111.1, t111.2], k.2⟩)
    (fun u g F h => (hX.spawn u g F x111 q16 0 wx111 (bx111.mono (by omega)) h (by decide)).mono fun _ _ k => ⟨by rw [k.1, t112.1, t112.2], k.2⟩)
    (fun u g F h => (hX.next u g F x112 wx112 (bx112.mono (by omega)) h).mono fun _ _ k => ⟨⟨_, k.1⟩, k.2⟩)
    (fun u g F h => (hX.adopt u g F x113 0 1 wx113 (bx113.mono (by omega)) h (by decide) (by decide)).mono fun _ _ k => ⟨by rw [k.1, t114], k.2⟩)
    (fun u g F h => (hX.despawn u g F x114 0 wx114 (bx114.mono (by omega)) h (by decide)).mono fun _ _ k => ⟨by rw [k.1, t115], k.2⟩)
    (fun u g F h => (hX.node u g F x115 1 wx115 (bx115.mono (by omega)) h (by decide)).mono fun _ _ ⟨Y, k1, k2, k3⟩ => ⟨Y, by rw [k1, t116.1], by rw [k2]; exact n15_any _ t116.2.1 t116.2.2.1 t116.2.2.2, k3⟩)
    (fun u g F h => (hX.changed u g F x115 1 wx115 (bx115.mono (by omega)) h).mono fun _ _ k => by rw [t117] at k; exact k)
    (fun u g F h => (hX.gone u g F x115 1 wx115 (bx115.mono (by omega)) h).mono fun _ _ k => by rw [t118] at k; exact k) w
end
set_option maxHeartbeats 8000000 in
set_option maxRecDepth 100000 in
theorem nothing11_any (hN : XN) (w : World) : Calls Tryz.prog 12 #[] w fun e w' => e = .returned (.bool true) ∧ Below w.heap.size w w' := by
  have HN := Lib.hid hN
  clear hN
  go_enter Tryz.func12, Tryz.ntmps12
  go_wp2_with fail
  refine (HN.out.spawn _).mono ?_
  rintro e w1 ⟨v, rfl, b1⟩
  have HB := Lib.hid b1
  clear b1
  go_wp2_with fail
  refine (HN.out.get _).mono ?_
  rintro e w2 ⟨Y, rfl, hpx, b1⟩
  have HPX := Lib.hid hpx
  replace HB := Lib.hid (bthen HB.out b1)
  clear hpx b1
  have HT4 : Hid ((w2.alloc (.cells Z24.toArray 43)).there w2.heap.size 0 Y.toArray.size) := Lib.hid (blk_there (Blk.new w2 43 Z24.toArray) (by rw [List.size_toArray, HPX.out.1]; exact Nat.le_refl 24))
  have HBl : Hid (Below w.heap.size w ((w2.alloc (.cells Z24.toArray 43)).setCells w2.heap.size 0 Y)) := Lib.hid (bthen HB.out (below_setCells Y (alloc_below _ _) (Nat.le_refl _)))
  go_upto_region 4 with (refine wpList_store_mid rfl 43 (.tmp 4) (.tmp 20) rfl w2.heap.size 0 Y.toArray rfl rfl HT4.out HPX.out.2.2.1 HPX.out.2.2.2 ?_)
  refine fin (fun W => Below w.heap.size w W) HBl.out ?_
  clear HBl HT4 HPX HB
  intro W4 hb
  have HB := Lib.hid hb
  clear hb
  go_wp2_with fail
  refine (HN.out.parent _).mono ?_
  rintro e w3 ⟨v3, rfl, b1⟩
  replace HB := Lib.hid (bthen HB.out b1)
  clear b1
  go_wp2_with fail
  refine (HN.out.node _).mono ?_
  rintro e w4 ⟨Y, rfl, hnx, b1⟩
  have HNX := Lib.hid hnx
  replace HB := Lib.hid (bthen HB.out b1)
  clear hnx b1
  have HT8 : Hid ((w4.alloc (.cells (cNd n0d).toArray 56)).there w4.heap.size 0 Y.toArray.size) := Lib.hid (blk_there (Blk.new w4 _ _) (by rw [List.size_toArray, HNX.out.len]; exact Nat.le_refl 15))
  have HBl : Hid (Below w.heap.size w ((w4.alloc (.cells (cNd n0d).toArray 56)).setCells w4.heap.size 0 Y)) := Lib.hid (bthen HB.out (below_setCells Y (alloc_below _ _) (Nat.le_refl _)))
  go_upto_region 6 with (refine wpList_store_mid rfl 56 (.tmp 8) (.tmp 30) rfl w4.heap.size 0 Y.toArray rfl rfl HT8.out HNX.out.sizea HNX.out.onea ?_)
  refine fin (fun W => Below w.heap.size w W) HBl.out ?_
  clear HBl HT8 HNX HB
  intro W6 hb
  have HB := Lib.hid hb
  clear hb
  go_wp2_with fail
  refine (HN.out.despawn _).mono ?_
  rintro e v0 ⟨rfl, b1⟩
  replace HB := Lib.hid (bthen HB.out b1)
  clear b1
  go_wp2_with fail
  refine (HN.out.put _).mono ?_
  rintro e v1 ⟨rfl, b1⟩
  replace HB := Lib.hid (bthen HB.out b1)
  clear b1
  go_wp2_with fail
  refine (HN.out.cut _).mono ?_
  rintro e v2 ⟨rfl, b1⟩
  replace HB := Lib.hid (bthen HB.out b1)
  clear b1
  go_wp2_with fail
  refine (HN.out.adopt _).mono ?_
  rintro e v3 ⟨rfl, b1⟩
  replace HB := Lib.hid (bthen HB.out b1)
  clear b1
  go_wp2_with fail
  refine (HN.out.free _).mono ?_
  rintro e v4 ⟨rfl, b1⟩
  replace HB := Lib.hid (bthen HB.out b1)
  clear b1
  go_wp2_with fail
  refine (HN.out.all _).mono ?_
  rintro e v5 ⟨aA, cA, rfl, b1⟩
  replace HB := Lib.hid (bthen HB.out b1)
  clear b1
  go_wp2_with fail
  refine (HN.out.changed _).mono ?_
  rintro e v6 ⟨aB, cB, rfl, b1⟩
  replace HB := Lib.hid (bthen HB.out b1)
  clear b1
  go_wp2_with fail
  refine (HN.out.gone _).mono ?_
  rintro e v7 ⟨aC, cC, rfl, b1⟩
  replace HB := Lib.hid (bthen HB.out b1)
  clear b1
  go_wp2_with fail
  refine (HN.out.tick _).mono ?_
  rintro e v8 ⟨rfl, b1⟩
  replace HB := Lib.hid (bthen HB.out b1)
  clear b1
  go_wp2_with fail
  refine (HN.out.next _).mono ?_
  rintro e v9 ⟨rfl, b1⟩
  replace HB := Lib.hid (bthen HB.out b1)
  clear b1
  go_wp2
  go_ret
  exact ⟨rfl, HB.out⟩
section
variable {XB : World → Nat → (Nat → Prop) → Sc → Prop}
theorem Duo11.new (hX : XC XB) {w0 w1 w2 : World} {gp gr : Nat} {Fp Fq : Nat → Prop} {X : Sc} (h1 : XB w1 gp Fp X) (f1 : ∀ b, Fp b → w0.heap.size ≤ b) (b1 : Below w0.heap.size w0 w1) (h2 : RSB w2 gr Fq X) (f2 : ∀ b, Fq b → w1.heap.size ≤ b) (b2 : Below w1.heap.size w1 w2) : Duo11 XB w0 w2 gp gr Fp Fq X X :=
  ⟨hX.kb.keep h1 b2, h2, fun b hb hq => by
    have c1 := hX.kb.inb w1 gp Fp X h1 b hb
    have c2 := f2 b hq
    omega, bthen b1 b2, f1, fun b hb => Nat.le_trans b1.size (f2 b hb)⟩
set_option maxHeartbeats 16000000 in
set_option maxRecDepth 100000 in
theorem plays11_yes (hX : XC XB) (hN : XN) (a : Option Addr) (len cap : Nat) (xs : List A11) (r0 since : Int) (w : World) (row : ARow11 w a len xs) :
    Calls Tryz.prog 3 #[.int .i64 r0, .int .i64 since, .slice a len cap] w fun e w' => e = .returned (.bool true) ∧ Below w.heap.size w w' := by
  have hbig := row.2.1
  have HRow := Lib.hid row
  have HXX := Lib.hid hX
  have HFits := Lib.hid (fits11_any a len cap xs w row)
  have HAlive := Lib.hid (alive11_any hX)
  have HNo := Lib.hid (nothing11_any hN)
  clear row hX hN
  go_enter Tryz.func3, Tryz.ntmps3
  go_wp2_with fail
  refine HFits.out.mono ?_
  rintro e w1 ⟨ok, rfl, hok, rfl⟩
  have HOk := Lib.hid hok
  clear hok HFits
  cases ok with
  | false =>
    go_wp2_with fail
    refine (HAlive.out _).mono ?_
    rintro e w2 ⟨rfl, b2⟩
    have HB := Lib.hid b2
    clear b2
    go_wp2
    go_ret
    exact ⟨rfl, HB.out⟩
  | true =>
    obtain ⟨h80, hn80⟩ := HOk.out rfl
    have HN80 := Lib.hid hn80
    clear hn80 HOk
    by_cases hr : r0 < 0 ∨ 256 < r0
    · go_wp2_with fail
      refine (HXX.out.bad _ r0 hr).mono ?_
      rintro e w2 ⟨rfl, b2⟩
      have HB := Lib.hid b2
      clear b2
      rcases hr with hr | hr
      · go_wp2_with fail
        refine (HAlive.out _).mono ?_
        rintro e w3 ⟨rfl, b2⟩
        replace HB := Lib.hid (bthen HB.out b2)
        clear b2
        go_wp2
        go_ret
        exact ⟨rfl, HB.out⟩
      · have hr' : ¬ r0 < 0 := by omega
        go_wp2_with fail
        refine (HAlive.out _).mono ?_
        rintro e w3 ⟨rfl, b2⟩
        replace HB := Lib.hid (bthen HB.out b2)
        clear b2
        go_wp2
        go_ret
        exact ⟨rfl, HB.out⟩
    · obtain ⟨r, rfl⟩ : ∃ r : Nat, r0 = r := ⟨r0.toNat, by omega⟩
      have hr1 : r ≤ 256 := by omega
      have hr2 : ¬ (r : Int) < 0 := by omega
      have hr3 : ¬ (256 : Int) < (r : Int) := by omega
      clear hr
      go_wp2_with fail
      refine (HXX.out.new _ r hr1).mono ?_
      rintro e w2 ⟨gp, Fp, rfl, sp, fp, b2⟩
      have HSp := Lib.hid (And.intro sp (And.intro fp b2))
      clear sp fp b2
      go_wp2_with fail
      refine (xnew_any _ r).mono ?_
      rintro e w3 ⟨gr, Fq, rfl, rb, fq, b3⟩
      have HD0 := Lib.hid (Duo11.new HXX.out HSp.out.1 HSp.out.2.1 HSp.out.2.2 rb fq b3)
      clear rb fq b3 HSp
      go_wp2
      go_loopw [11, 12, 13, 14, 15, 16] (fun v11 _ _ _ _ _ wq => ∃ (j : Nat) (Fp Fq : Nat → Prop) (X : Sc), j ≤ len ∧ v11 = .int .i64 j ∧ WX X ∧ BSc X (2 * j) ∧ Duo11 XB w wq gp gr Fp Fq X X) (fun v11 _ _ _ _ _ _ => len - (intOf v11).toNat)
      case atStart => exact ⟨0, Fp, Fq, Sc0 r, by omega, rfl, WX.zero hr1, BSc.zero hr1, HD0.out⟩
      case round =>
        clear HD0
        obtain ⟨j, Fp, Fq, X, hj, rfl, hws, hbd, hd⟩ := hrel
        have HD := Lib.hid hd
        have HWS := Lib.hid hws
        have HBd := Lib.hid hbd
        clear hd hws hbd
        by_cases hlt : j < len
        · have j0 : (0 : Int) ≤ (j : Int) := by omega
          have j1 : (j : Int) < (len : Int) := by omega
          obtain ⟨b, off, x, rfl, hx, hrx, hok⟩ := (HRow.out.keep HD.out.low).at_ hlt
          have hxn : x.n ≤ 80 := HN80.out x (List.mem_of_getElem? hx)
          have HOk2 : Hid (∀ u, Below w.heap.size w u → ok11 u x ∧ u.rangeAt b (off + j * 28) (c11 x) ∧ b < u.heap.size) := Lib.hid (fun u q => by
            obtain ⟨b', off', x', e', hx', hr', ho'⟩ := (HRow.out.keep q).at_ hlt
            injection e' with e'
            injection e' with e1 e2 _
            subst e1
            subst e2
            rw [hx] at hx'
            injection hx' with hx'
            subst hx'
            exact ⟨ho', hr', World.block_lt_of_cell? _ _ (hr' 0 _ rfl)⟩)
          have HAw : Hid (∀ F : Nat → Prop, (∀ c, F c → w.heap.size ≤ c) → Aw F x.a x.n) := Lib.hid (fun F hF => aw_in (HOk2.out w (Below.refl _ _)).1.2.2.2.2.2.2 hF)
          have HSz := Lib.hid (c11_size x)
          have HDo : Hid (∀ u Fp, Below w.heap.size w u → XB u gp Fp X → (∀ c, Fp c → w.heap.size ≤ c) → Calls Tryz.prog 9 #[.pointer (some ⟨gp, 0, none⟩), .agg (c11 x).toArray] u fun e w' => e = .returned (.tuple #[.int .i64 (doXV X x), .int .i64 (doXE X x)]) ∧ ChB XB u w' gp Fp (doX X x)) := Lib.hid (fun u Fp q h hF => do11_any HXX.out h HWS.out (HBd.out.mono (by omega)) x (HOk2.out u q).1 (HAw.out Fp hF) hxn)
          have HWa : Hid (∀ u Fq, Below w.heap.size w u → RSB u gr Fq X → Calls Tryz.prog 10 #[.pointer (some ⟨gr, 0, none⟩), .agg (c11 x).toArray] u fun e w' => e = .returned (.tuple #[.int .i64 (doXV X x), .int .i64 (doXE X x)]) ∧ ChB RSB u w' gr Fq (doX X x)) := Lib.hid (fun u Fq q h => want11_any h HWS.out (HBd.out.mono (by omega)) x (HOk2.out u q).1 hxn)
          have HSa : Hid (∀ u Fp Fq, XB u gp Fp (doX X x) → RSB u gr Fq (doX X x) → Calls Tryz.prog 11 #[.pointer (some ⟨gp, 0, none⟩), .pointer (some ⟨gr, 0, none⟩), .int .i64 since] u fun e w' => e = .returned (.bool true) ∧ Below u.heap.size u w') := Lib.hid (fun u Fp Fq h1 h2 => same11_any HXX.out h1 h2 (HWS.out.does x) ((HBd.out.does HWS.out x).mono (by omega)) since)
          have HW2 := Lib.hid (HWS.out.does x)
          have HB2 := Lib.hid (HBd.out.does HWS.out x)
          have HRx := Lib.hid hrx
          have hlb := World.block_lt_of_cell? _ _ (hrx 0 _ rfl)
          obtain ⟨X2, hX2⟩ : ∃ X2, X2 = doX X x := ⟨_, rfl⟩
          obtain ⟨dv, hdv⟩ : ∃ d, d = doXV X x := ⟨_, rfl⟩
          obtain ⟨de, hde⟩ : ∃ d, d = doXE X x := ⟨_, rfl⟩
          rw [← hX2, ← hdv, ← hde] at HDo HWa
          rw [← hX2] at HSa HW2 HB2
          obtain ⟨XA, hXA⟩ : ∃ XA, XA = c11 x := ⟨_, rfl⟩
          have HOr : Hid (∀ u, Below w.heap.size w u → u.rangeAt b (off + j * 28) XA ∧ b < u.heap.size) := Lib.hid (fun u q => by rw [hXA]; exact (HOk2.out u q).2)
          rw [← hXA] at HDo HWa HRx HSz
          clear hx hrx hok hX2 hdv hde hXA HOk2 HAw hxn
          go_wp2_with (refine wpList_load_mid rfl 46 (.tmp 60) rfl b (off + j * 28) rfl XA _ HRx.out Tryz.underlying46 rfl HSz.out ?_)
          refine (HDo.out _ Fp HD.out.low HD.out.p HD.out.np).mono ?_
          rintro e w4 ⟨rfl, ch⟩
          obtain ⟨Fp2, hd⟩ := HD.out.prog ch
          replace HD := Lib.hid hd
          replace HRx := Lib.hid (HOr.out _ hd.low).1
          have hlb4 := (HOr.out _ hd.low).2
          clear ch hd hlb HDo
          go_wp2_with (refine wpList_load_mid rfl 46 (.tmp 69) rfl b (off + j * 28) rfl XA _ HRx.out Tryz.underlying46 rfl HSz.out ?_)
          refine (HWa.out _ Fq HD.out.low HD.out.q).mono ?_
          rintro e w5 ⟨rfl, ch⟩
          obtain ⟨Fq2, hd⟩ := HD.out.ref HXX.out ch
          replace HD := Lib.hid hd
          clear ch hd hlb4 HWa HRx HOr HSz
          go_wp2_with fail
          refine (HSa.out _ _ _ HD.out.p HD.out.q).mono ?_
          rintro e w6 ⟨rfl, b6⟩
          replace HD := Lib.hid (HD.out.keep HXX.out b6)
          clear b6 HSa
          go_wp2
          go_roundw
          case rel => exact ⟨j + 1, Fp2, Fq2, X2, by omega, by go_num, HW2.out, HB2.out, HD.out⟩
          case measure => simp [intOf] <;> omega
        · obtain rfl : j = len := by omega
          have HB := Lib.hid HD.out.low
          have j1 : ¬ (j : Int) < (j : Int) := by omega
          clear HD HWS HBd
          go_wp2_with fail
          refine (HAlive.out _).mono ?_
          rintro e w6 ⟨rfl, b6⟩
          replace HB := Lib.hid (bthen HB.out b6)
          clear b6
          go_wp2_with fail
          refine (HNo.out _).mono ?_
          rintro e w7 ⟨rfl, b6⟩
          replace HB := Lib.hid (bthen HB.out b6)
          clear b6
          go_wp2
          go_ret
          exact ⟨rfl, HB.out⟩
end
end Go.Proofs.YtkondkajpmafkaaGreat
