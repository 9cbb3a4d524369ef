/-
  3 texts in one file, each with its own heading.
-/
import Derived.Test.YthhfcedhbfandaaGreatMS32
/-
  Do and Want of the law of layer 11: an act on a scene.
-/
namespace Go.Proofs.YthhfcedhbfandaaGreat
open Go.RowKit

theorem ChB.of {α : Type} {B : World → Nat → (Nat → Prop) → α → Prop} {w w1 w2 : World} {g : Nat} {F : Nat → Prop} {x : α} (h : ChB B w1 w2 g F x) (hb : Below w.heap.size w w1) : ChB B w w2 g F x := by
  obtain ⟨F', h1, h2, h3⟩ := h
  exact ⟨F', h1, Fr.after hb h2, fun b hf => (h3 b hf).imp_right (fun c => Nat.le_trans hb.size c)⟩
section
variable {XB : World → Nat → (Nat → Prop) → Sc → Prop}
set_option maxHeartbeats 16000000 in
set_option maxRecDepth 100000 in
theorem do11_any (hX : XC XB) {w : World} {g : Nat} {F : Nat → Prop} {X : Sc} (h : XB w g F X) (hW : WX X) (hB : BSc X 800) (x : A11) (hx : ok11 w x) (haw : Aw F x.a x.n) (hn : x.n ≤ 80) :
    Calls Tryz.prog 18 #[.pointer (some ⟨g, 0, none⟩), .agg (c11 x).toArray] w fun e w' => e = .returned (.tuple #[.int .i64 (doXV X x), .int .i64 (doXE X x)]) ∧ ChB XB w w' g F (doX X x) := by
  have hk0 := hx.1
  have hk1 := hx.2.1
  have hrow := hx.2.2.2.2.2.2
  have hB9 : BSc X 900 := hB.mono (by omega)
  have hzl : (alS X.S).length ≤ 1000 := by have := all_len X.S.G X.S.L 256; unfold alS; omega
  obtain ⟨y1, hy1⟩ : ∃ y, y = p11 X x.one := ⟨_, rfl⟩
  obtain ⟨y2, hy2⟩ : ∃ y, y = p11 X x.two := ⟨_, rfl⟩
  have hr1 : Rg y1 := by rw [hy1]; exact p11_rg hW hx.2.2.1 hx.2.2.2.1
  have hr2 : Rg y2 := by rw [hy2]; exact p11_rg hW hx.2.2.2.2.1 hx.2.2.2.2.2.1
  have HP1 : Hid (∀ u a cap, Row u a (alS X.S).length (alS X.S) → Calls Tryz.prog 46 #[.slice a (alS X.S).length cap, .int .u8 x.one] u fun e w' => e = .returned (.int .i64 y1) ∧ u = w') := Lib.hid (fun u a cap r => by rw [hy1]; exact pick11_any a _ cap _ x.one u hx.2.2.1 hx.2.2.2.1 hzl r)
  have HP2 : Hid (∀ u a cap, Row u a (alS X.S).length (alS X.S) → Calls Tryz.prog 46 #[.slice a (alS X.S).length cap, .int .u8 x.two] u fun e w' => e = .returned (.int .i64 y2) ∧ u = w') := Lib.hid (fun u a cap r => by rw [hy2]; exact pick11_any a _ cap _ x.two u hx.2.2.2.2.1 hx.2.2.2.2.2.1 hzl r)
  have HDo : Hid (doX X x = (if x.k % 11 = 3 then xdeS X y1 else if x.k % 11 = 4 ∨ x.k % 11 = 5 then xpuS X y1 x.P x.ks else if x.k % 11 = 6 then xcuS X y1 x.ks else if x.k % 11 = 7 ∨ x.k % 11 = 8 then xadS X y1 y2 else if x.k % 11 = 9 then xfrS X y1 else if x.k % 11 = 10 then xneS X else xspS X x.P y2) ∧ doXE X x = (if x.k % 11 = 3 then deE X.S y1 else if x.k % 11 = 4 ∨ x.k % 11 = 5 then puE X.S y1 x.P x.ks else if x.k % 11 = 6 then cuE X.S y1 x.ks else if x.k % 11 = 7 ∨ x.k % 11 = 8 then xadE X y1 y2 else if x.k % 11 = 9 then xfrE X y1 else if x.k % 11 = 10 then 0 else xspE X x.P y2) ∧ doXV X x = (if x.k % 11 = 10 then X.S.now + 1 else if x.k % 11 < 3 then xspV X x.P y2 else 0)) := Lib.hid (by rw [hy1, hy2]; exact ⟨rfl, rfl, rfl⟩)
  have HAl : Hid (∀ u, Below w.heap.size w u → Calls Tryz.prog 44 #[.pointer (some ⟨g, 0, none⟩)] u fun e w' => ∃ v, e = .returned v ∧ LRes u w' (alS X.S) v ∧ Below u.heap.size u w') := Lib.hid (fun u q => hX.all u g F X hW hB9 (hX.kb.keep h q))
  have HSpawn : Hid (∀ u, Below w.heap.size w u → Calls Tryz.prog 28 #[.pointer (some ⟨g, 0, none⟩), .agg (pl x.P).toArray, .int .i64 y2] u fun e w' => e = .returned (.tuple #[.int .i64 (xspV X x.P y2), .int .i64 (xspE X x.P y2)]) ∧ ChB XB w w' g F (xspS X x.P y2)) := Lib.hid (fun u q => (hX.spawn u g F X x.P y2 hW hB9 (hX.kb.keep h q) hr2).mono fun _ _ k => ⟨k.1, k.2.of q⟩)
  have HDespawn : Hid (∀ u, Below w.heap.size w u → Calls Tryz.prog 29 #[.pointer (some ⟨g, 0, none⟩), .int .i64 y1] u fun e w' => e = .returned (.int .i64 (deE X.S y1)) ∧ ChB XB w w' g F (xdeS X y1)) := Lib.hid (fun u q => (hX.despawn u g F X y1 hW hB9 (hX.kb.keep h q) hr1).mono fun _ _ k => ⟨k.1, k.2.of q⟩)
  have HPut : Hid (∀ u, Below w.heap.size w u → Calls Tryz.prog 47 #[.pointer (some ⟨g, 0, none⟩), .int .i64 y1, .agg (pl x.P).toArray, .slice x.a x.n x.cap] u fun e w' => e = .returned (.int .i64 (puE X.S y1 x.P x.ks)) ∧ ChB XB w w' g F (xpuS X y1 x.P x.ks)) := Lib.hid (fun u q => (hX.put u g F X y1 x.P x.a x.n x.cap x.ks hW hB9 (hX.kb.keep h q) (by omega) (row_keep hrow q) haw).mono fun _ _ k => ⟨k.1, k.2.of q⟩)
  have HCut : Hid (∀ u, Below w.heap.size w u → Calls Tryz.prog 48 #[.pointer (some ⟨g, 0, none⟩), .int .i64 y1, .slice x.a x.n x.cap] u fun e w' => e = .returned (.int .i64 (cuE X.S y1 x.ks)) ∧ ChB XB w w' g F (xcuS X y1 x.ks)) := Lib.hid (fun u q => (hX.cut u g F X y1 x.a x.n x.cap x.ks hW hB9 (hX.kb.keep h q) (by omega) (row_keep hrow q) haw).mono fun _ _ k => ⟨k.1, k.2.of q⟩)
  have HAdopt : Hid (∀ u, Below w.heap.size w u → Calls Tryz.prog 49 #[.pointer (some ⟨g, 0, none⟩), .int .i64 y1, .int .i64 y2] u fun e w' => e = .returned (.int .i64 (xadE X y1 y2)) ∧ ChB XB w w' g F (xadS X y1 y2)) := Lib.hid (fun u q => (hX.adopt u g F X y1 y2 hW hB9 (hX.kb.keep h q) hr1 hr2).mono fun _ _ k => ⟨k.1, k.2.of q⟩)
  have HFree : Hid (∀ u, Below w.heap.size w u → Calls Tryz.prog 50 #[.pointer (some ⟨g, 0, none⟩), .int .i64 y1] u fun e w' => e = .returned (.int .i64 (xfrE X y1)) ∧ ChB XB w w' g F (xfrS X y1)) := Lib.hid (fun u q => (hX.free u g F X y1 hW hB9 (hX.kb.keep h q) hr1).mono fun _ _ k => ⟨k.1, k.2.of q⟩)
  have HNext : Hid (∀ u, Below w.heap.size w u → Calls Tryz.prog 33 #[.pointer (some ⟨g, 0, none⟩)] u fun e w' => e = .returned (.int .i64 (X.S.now + 1)) ∧ ChB XB w w' g F (xneS X)) := Lib.hid (fun u q => (hX.next u g F X hW hB9 (hX.kb.keep h q)).mono fun _ _ k => ⟨k.1, k.2.of q⟩)
  have HC : Hid (∀ u, Blk u w.heap.size 55 (c11 x).toArray → u.cell? ⟨w.heap.size, 0, none⟩ = some (.int .u8 x.k) ∧ u.cell? ⟨w.heap.size, 1, none⟩ = some (.int .u8 x.one) ∧ u.cell? ⟨w.heap.size, 2, none⟩ = some (.int .u8 x.two) ∧ u.cell? ⟨w.heap.size, 27, none⟩ = some (.slice x.a x.n x.cap) ∧ u.rangeAt w.heap.size 3 (pl x.P)) := Lib.hid (fun u k => ⟨k.cell 0, k.cell 1, k.cell 2, k.cell 27, blk_range k 3 24⟩)
  have HPz := Lib.hid (pl_size x.P)
  have KA := Lib.hid (Blk.new w 55 (c11 x).toArray)
  have HB1 : Hid (Below w.heap.size w (w.alloc (.cells (c11 x).toArray 55))) := Lib.hid (alloc_below _ _)
  obtain ⟨XA, hXA⟩ : ∃ XA, XA = c11 x := ⟨_, rfl⟩
  rw [← hXA] at HC KA HB1 ⊢
  have hk11 : 0 ≤ x.k % 11 ∧ x.k % 11 < 11 := by omega
  clear hXA h hX hW hB hB9 hx haw hrow hy1 hy2 hr1 hr2 hzl
  go_enter Tryz.func18, Tryz.ntmps18
  go_upto_region 1 with fail
  refine fin (fun W => Blk W w.heap.size 55 XA.toArray ∧ Below w.heap.size w W) ⟨KA.out, HB1.out⟩ ?_
  clear KA HB1
  rintro V1 ⟨ka, hb1⟩
  have KA : Hid (Blk V1.drew w.heap.size 55 XA.toArray) := Lib.hid (ka.keep (drew_below _))
  have HB1 := Lib.hid (bthen hb1 (drew_below _))
  have c1 := (fun {u} k => (HC.out u k).2.1) ka
  clear ka hb1
  refine wp_region_held_drew (S := fun w' => w'.cell? ⟨w.heap.size, 1, none⟩ = some (.int .u8 x.one)) (by kernel_rfl) (c1) (fun hHeld => ?_)
  refine tk 0 hHeld ?_
  refine tk 2 hHeld ?_
  refine tk 3 hHeld ?_
  refine rd 1 (fun K hK => ?_)
  go_simp
  go_at_call 44
  refine (HAl.out _ HB1.out).mono ?_
  rintro e w1 ⟨v, rfl, ⟨la, lcap, rfl, lrow, -⟩, b1⟩
  have HLr := Lib.hid lrow
  replace KA := Lib.hid (KA.out.keep b1)
  replace HB1 := Lib.hid (bthen HB1.out b1)
  clear lrow b1
  go_wp2_with fail
  refine hK.out _ _ ((fun {u} k => (HC.out u k).2.1) KA.out) (fun hHeld => ?_)
  clear hK K
  refine rd 4 (fun K hK => ?_)
  go_simp
  go_at_call 46
  refine (HP1.out _ _ _ HLr.out).mono ?_
  rintro e w2 ⟨rfl, rfl⟩
  go_wp2_with fail
  refine hK.out _ _ ((fun {u} k => (HC.out u k).2.1) KA.out) (fun hHeld => ?_)
  clear hK K
  refine tk 5 hHeld ?_
  refine wpAnyH_done (by kernel_rfl) ?_ _
  clear hHeld HLr c1
  go_upto_region 2 with fail
  refine fin (fun W => Blk W w.heap.size 55 XA.toArray ∧ Below w.heap.size w W) ⟨KA.out, HB1.out⟩ ?_
  clear KA HB1
  rintro V2 ⟨ka, hb1⟩
  have KA : Hid (Blk V2.drew w.heap.size 55 XA.toArray) := Lib.hid (ka.keep (drew_below _))
  have HB1 := Lib.hid (bthen hb1 (drew_below _))
  have c1 := (fun {u} k => (HC.out u k).2.2.1) ka
  clear ka hb1
  refine wp_region_held_drew (S := fun w' => w'.cell? ⟨w.heap.size, 2, none⟩ = some (.int .u8 x.two)) (by kernel_rfl) (c1) (fun hHeld => ?_)
  refine tk 0 hHeld ?_
  refine tk 2 hHeld ?_
  refine tk 3 hHeld ?_
  refine rd 1 (fun K hK => ?_)
  go_simp
  go_at_call 44
  refine (HAl.out _ HB1.out).mono ?_
  rintro e w1 ⟨v, rfl, ⟨la, lcap, rfl, lrow, -⟩, b1⟩
  have HLr := Lib.hid lrow
  replace KA := Lib.hid (KA.out.keep b1)
  replace HB1 := Lib.hid (bthen HB1.out b1)
  clear lrow b1
  go_wp2_with fail
  refine hK.out _ _ ((fun {u} k => (HC.out u k).2.2.1) KA.out) (fun hHeld => ?_)
  clear hK K
  refine rd 4 (fun K hK => ?_)
  go_simp
  go_at_call 46
  refine (HP2.out _ _ _ HLr.out).mono ?_
  rintro e w2 ⟨rfl, rfl⟩
  go_wp2_with fail
  refine hK.out _ _ ((fun {u} k => (HC.out u k).2.2.1) KA.out) (fun hHeld => ?_)
  clear hK K
  refine tk 5 hHeld ?_
  refine wpAnyH_done (by kernel_rfl) ?_ _
  clear hHeld HLr c1
  go_upto_region 3 with fail
  refine fin (fun W => Blk W w.heap.size 55 XA.toArray ∧ Below w.heap.size w W) ⟨KA.out, HB1.out⟩ ?_
  clear KA HB1 HP1 HP2 HAl
  rintro W ⟨ka, hb1⟩
  obtain ⟨d0, -, -, d27, rP⟩ := HC.out _ ka
  have hwl := ka.lt
  have HRP := Lib.hid rP
  have HB1 := Lib.hid hb1
  clear ka hb1 rP
  have hcases : x.k % 11 = 0 ∨ x.k % 11 = 1 ∨ x.k % 11 = 2 ∨ x.k % 11 = 3 ∨ x.k % 11 = 4 ∨ x.k % 11 = 5 ∨ x.k % 11 = 6 ∨ x.k % 11 = 7 ∨ x.k % 11 = 8 ∨ x.k % 11 = 9 ∨ x.k % 11 = 10 := by omega
  obtain ⟨k, one, two, P, aa, nn, cc, ks⟩ := x
  simp only at d0 d27 HRP HPz HDo hcases hk0 hk1 hk11 HSpawn HDespawn HPut HCut HAdopt HFree HNext hn ⊢
  clear HC
  rcases hcases with h | h | h | h | h | h | h | h | h | h | h
  · have HE : Hid (doX X ⟨k, one, two, P, aa, nn, cc, ks⟩ = xspS X P y2 ∧ doXE X ⟨k, one, two, P, aa, nn, cc, ks⟩ = xspE X P y2 ∧ doXV X ⟨k, one, two, P, aa, nn, cc, ks⟩ = xspV X P y2) := Lib.hid (by rw [HDo.out.1, HDo.out.2.1, HDo.out.2.2, h]; simp)
    clear HDo
    go_wp2_with (refine wpList_load_mid rfl 52 (.tmp 60) rfl w.heap.size 3 rfl (pl P) _ HRP.out Tryz.underlying52 rfl HPz.out ?_)
    refine (HSpawn.out _ HB1.out).mono ?_
    rintro e w3 ⟨rfl, ch⟩
    have HZ : Hid (ChB XB w w3 g F (doX X ⟨k, one, two, P, aa, nn, cc, ks⟩)) := Lib.hid (by rw [HE.out.1]; exact ch)
    clear ch d0 d27 hwl
    go_wp2
    go_ret2
    exact ⟨by rw [HE.out.2.1, HE.out.2.2]; rfl, HZ.out⟩
  · have HE : Hid (doX X ⟨k, one, two, P, aa, nn, cc, ks⟩ = xspS X P y2 ∧ doXE X ⟨k, one, two, P, aa, nn, cc, ks⟩ = xspE X P y2 ∧ doXV X ⟨k, one, two, P, aa, nn, cc, ks⟩ = xspV X P y2) := Lib.hid (by rw [HDo.out.1, HDo.out.2.1, HDo.out.2.2, h]; simp)
    clear HDo
    go_wp2_with (refine wpList_load_mid rfl 52 (.tmp 60) rfl w.heap.size 3 rfl (pl P) _ HRP.out Tryz.underlying52 rfl HPz.out ?_)
    refine (HSpawn.out _ HB1.out).mono ?_
    rintro e w3 ⟨rfl, ch⟩
    have HZ : Hid (ChB XB w w3 g F (doX X ⟨k, one, two, P, aa, nn, cc, ks⟩)) := Lib.hid (by rw [HE.out.1]; exact ch)
    clear ch d0 d27 hwl
    go_wp2
    go_ret2
    exact ⟨by rw [HE.out.2.1, HE.out.2.2]; rfl, HZ.out⟩
  · have HE : Hid (doX X ⟨k, one, two, P, aa, nn, cc, ks⟩ = xspS X P y2 ∧ doXE X ⟨k, one, two, P, aa, nn, cc, ks⟩ = xspE X P y2 ∧ doXV X ⟨k, one, two, P, aa, nn, cc, ks⟩ = xspV X P y2) := Lib.hid (by rw [HDo.out.1, HDo.out.2.1, HDo.out.2.2, h]; simp)
    clear HDo
    go_wp2_with (refine wpList_load_mid rfl 52 (.tmp 60) rfl w.heap.size 3 rfl (pl P) _ HRP.out Tryz.underlying52 rfl HPz.out ?_)
    refine (HSpawn.out _ HB1.out).mono ?_
    rintro e w3 ⟨rfl, ch⟩
    have HZ : Hid (ChB XB w w3 g F (doX X ⟨k, one, two, P, aa, nn, cc, ks⟩)) := Lib.hid (by rw [HE.out.1]; exact ch)
    clear ch d0 d27 hwl
    go_wp2
    go_ret2
    exact ⟨by rw [HE.out.2.1, HE.out.2.2]; rfl, HZ.out⟩
  · have HE : Hid (doX X ⟨k, one, two, P, aa, nn, cc, ks⟩ = xdeS X y1 ∧ doXE X ⟨k, one, two, P, aa, nn, cc, ks⟩ = deE X.S y1 ∧ doXV X ⟨k, one, two, P, aa, nn, cc, ks⟩ = 0) := Lib.hid (by rw [HDo.out.1, HDo.out.2.1, HDo.out.2.2, h]; simp)
    clear HDo
    go_wp2_with fail
    refine (HDespawn.out _ HB1.out).mono ?_
    rintro e w3 ⟨rfl, ch⟩
    have HZ : Hid (ChB XB w w3 g F (doX X ⟨k, one, two, P, aa, nn, cc, ks⟩)) := Lib.hid (by rw [HE.out.1]; exact ch)
    clear ch d0 d27 hwl
    go_wp2
    go_ret2
    exact ⟨by rw [HE.out.2.1, HE.out.2.2]; rfl, HZ.out⟩
  · have HE : Hid (doX X ⟨k, one, two, P, aa, nn, cc, ks⟩ = xpuS X y1 P ks ∧ doXE X ⟨k, one, two, P, aa, nn, cc, ks⟩ = puE X.S y1 P ks ∧ doXV X ⟨k, one, two, P, aa, nn, cc, ks⟩ = 0) := Lib.hid (by rw [HDo.out.1, HDo.out.2.1, HDo.out.2.2, h]; simp)
    clear HDo
    go_wp2_with (refine wpList_load_mid rfl 52 (.tmp 31) rfl w.heap.size 3 rfl (pl P) _ HRP.out Tryz.underlying52 rfl HPz.out ?_)
    refine (HPut.out _ HB1.out).mono ?_
    rintro e w3 ⟨rfl, ch⟩
    have HZ : Hid (ChB XB w w3 g F (doX X ⟨k, one, two, P, aa, nn, cc, ks⟩)) := Lib.hid (by rw [HE.out.1]; exact ch)
    clear ch d0 d27 hwl
    go_wp2
    go_ret2
    exact ⟨by rw [HE.out.2.1, HE.out.2.2]; rfl, HZ.out⟩
  · have HE : Hid (doX X ⟨k, one, two, P, aa, nn, cc, ks⟩ = xpuS X y1 P ks ∧ doXE X ⟨k, one, two, P, aa, nn, cc, ks⟩ = puE X.S y1 P ks ∧ doXV X ⟨k, one, two, P, aa, nn, cc, ks⟩ = 0) := Lib.hid (by rw [HDo.out.1, HDo.out.2.1, HDo.out.2.2, h]; simp)
    clear HDo
    go_wp2_with (refine wpList_load_mid rfl 52 (.tmp 31) rfl w.heap.size 3 rfl (pl P) _ HRP.out Tryz.underlying52 rfl HPz.out ?_)
    refine (HPut.out _ HB1.out).mono ?_
    rintro e w3 ⟨rfl, ch⟩
    have HZ : Hid (ChB XB w w3 g F (doX X ⟨k, one, two, P, aa, nn, cc, ks⟩)) := Lib.hid (by rw [HE.out.1]; exact ch)
    clear ch d0 d27 hwl
    go_wp2
    go_ret2
    exact ⟨by rw [HE.out.2.1, HE.out.2.2]; rfl, HZ.out⟩
  · have HE : Hid (doX X ⟨k, one, two, P, aa, nn, cc, ks⟩ = xcuS X y1 ks ∧ doXE X ⟨k, one, two, P, aa, nn, cc, ks⟩ = cuE X.S y1 ks ∧ doXV X ⟨k, one, two, P, aa, nn, cc, ks⟩ = 0) := Lib.hid (by rw [HDo.out.1, HDo.out.2.1, HDo.out.2.2, h]; simp)
    clear HDo
    go_wp2_with fail
    refine (HCut.out _ HB1.out).mono ?_
    rintro e w3 ⟨rfl, ch⟩
    have HZ : Hid (ChB XB w w3 g F (doX X ⟨k, one, two, P, aa, nn, cc, ks⟩)) := Lib.hid (by rw [HE.out.1]; exact ch)
    clear ch d0 d27 hwl
    go_wp2
    go_ret2
    exact ⟨by rw [HE.out.2.1, HE.out.2.2]; rfl, HZ.out⟩
  · have HE : Hid (doX X ⟨k, one, two, P, aa, nn, cc, ks⟩ = xadS X y1 y2 ∧ doXE X ⟨k, one, two, P, aa, nn, cc, ks⟩ = xadE X y1 y2 ∧ doXV X ⟨k, one, two, P, aa, nn, cc, ks⟩ = 0) := Lib.hid (by rw [HDo.out.1, HDo.out.2.1, HDo.out.2.2, h]; simp)
    clear HDo
    go_wp2_with fail
    refine (HAdopt.out _ HB1.out).mono ?_
    rintro e w3 ⟨rfl, ch⟩
    have HZ : Hid (ChB XB w w3 g F (doX X ⟨k, one, two, P, aa, nn, cc, ks⟩)) := Lib.hid (by rw [HE.out.1]; exact ch)
    clear ch d0 d27 hwl
    go_wp2
    go_ret2
    exact ⟨by rw [HE.out.2.1, HE.out.2.2]; rfl, HZ.out⟩
  · have HE : Hid (doX X ⟨k, one, two, P, aa, nn, cc, ks⟩ = xadS X y1 y2 ∧ doXE X ⟨k, one, two, P, aa, nn, cc, ks⟩ = xadE X y1 y2 ∧ doXV X ⟨k, one, two, P, aa, nn, cc, ks⟩ = 0) := Lib.hid (by rw [HDo.out.1, HDo.out.2.1, HDo.out.2.2, h]; simp)
    clear HDo
    go_wp2_with fail
    refine (HAdopt.out _ HB1.out).mono ?_
    rintro e w3 ⟨rfl, ch⟩
    have HZ : Hid (ChB XB w w3 g F (doX X ⟨k, one, two, P, aa, nn, cc, ks⟩)) := Lib.hid (by rw [HE.out.1]; exact ch)
    clear ch d0 d27 hwl
    go_wp2
    go_ret2
    exact ⟨by rw [HE.out.2.1, HE.out.2.2]; rfl, HZ.out⟩
  · have HE : Hid (doX X ⟨k, one, two, P, aa, nn, cc, ks⟩ = xfrS X y1 ∧ doXE X ⟨k, one, two, P, aa, nn, cc, ks⟩ = xfrE X y1 ∧ doXV X ⟨k, one, two, P, aa, nn, cc, ks⟩ = 0) := Lib.hid (by rw [HDo.out.1, HDo.out.2.1, HDo.out.2.2, h]; simp)
    clear HDo
    go_wp2_with fail
    refine (HFree.out _ HB1.out).mono ?_
    rintro e w3 ⟨rfl, ch⟩
    have HZ : Hid (ChB XB w w3 g F (doX X ⟨k, one, two, P, aa, nn, cc, ks⟩)) := Lib.hid (by rw [HE.out.1]; exact ch)
    clear ch d0 d27 hwl
    go_wp2
    go_ret2
    exact ⟨by rw [HE.out.2.1, HE.out.2.2]; rfl, HZ.out⟩
  · have HE : Hid (doX X ⟨k, one, two, P, aa, nn, cc, ks⟩ = xneS X ∧ doXE X ⟨k, one, two, P, aa, nn, cc, ks⟩ = 0 ∧ doXV X ⟨k, one, two, P, aa, nn, cc, ks⟩ = X.S.now + 1) := Lib.hid (by rw [HDo.out.1, HDo.out.2.1, HDo.out.2.2, h]; simp)
    clear HDo
    go_wp2_with fail
    refine (HNext.out _ HB1.out).mono ?_
    rintro e w3 ⟨rfl, ch⟩
    have HZ : Hid (ChB XB w w3 g F (doX X ⟨k, one, two, P, aa, nn, cc, ks⟩)) := Lib.hid (by rw [HE.out.1]; exact ch)
    clear ch d0 d27 hwl
    go_wp2
    go_ret2
    exact ⟨by rw [HE.out.2.1, HE.out.2.2]; rfl, HZ.out⟩
end
structure Duo11 (XB : World → Nat → (Nat → Prop) → Sc → Prop) (w0 w : World) (gp gr : Nat) (Fp Fq : Nat → Prop) (X Y : Sc) : Prop where
  p : XB w gp Fp X
  q : RSB w gr Fq Y
  far : ∀ b, Fp b → ¬ Fq b
  low : Below w0.heap.size w0 w
  np : ∀ b, Fp b → w0.heap.size ≤ b
  nq : ∀ b, Fq b → w0.heap.size ≤ b
section
variable {XB : World → Nat → (Nat → Prop) → Sc → Prop} {w0 w w' : World} {gp gr : Nat} {Fp Fq : Nat → Prop} {X Y X' Y' : Sc}
end
section
variable {XB : World → Nat → (Nat → Prop) → Sc → Prop}
end
end Go.Proofs.YthhfcedhbfandaaGreat
