/-
  2 texts in one file, each with its own heading.
-/
import Derived.Test.YtkondkajpmafkaaGreatMT48
import Derived.Test.YtkondkajpmafkaaGreatMT40
/-
  No scene; the landed scene answers as the bundles of layer 11 say.
-/
namespace Go.Proofs.YtkondkajpmafkaaGreat
open Go.RowKit

structure XN : Prop where
  spawn : ∀ w : World, Calls Tryz.prog 22 #[.pointer none, .agg Z24.toArray, .int .i64 (-1)] w fun e w' => ∃ v, e = .returned (.tuple #[.int .i64 v, .int .i64 1]) ∧ Below w.heap.size w w'
  get : ∀ w : World, Calls Tryz.prog 17 #[.pointer none, .int .i64 0] w fun e w' => ∃ Y, e = .returned (.tuple #[.agg (List.toArray Y), .bool false]) ∧ PXs Y ∧ Below w.heap.size w w'
  parent : ∀ w : World, Calls Tryz.prog 43 #[.pointer none, .int .i64 0] w fun e w' => ∃ v, e = .returned (.tuple #[.int .i64 v, .bool false]) ∧ Below w.heap.size w w'
  node : ∀ w : World, Calls Tryz.prog 16 #[.pointer none, .int .i64 0] w fun e w' => ∃ Y, e = .returned (.tuple #[.agg (List.toArray Y), .bool false]) ∧ NXs Y 56 ∧ Below w.heap.size w w'
  despawn : ∀ w : World, Calls Tryz.prog 24 #[.pointer none, .int .i64 0] w fun e w' => e = .returned (.int .i64 1) ∧ Below w.heap.size w w'
  put : ∀ w : World, Calls Tryz.prog 30 #[.pointer none, .int .i64 0, .agg Z24.toArray, .slice none 0 0] w fun e w' => e = .returned (.int .i64 1) ∧ Below w.heap.size w w'
  cut : ∀ w : World, Calls Tryz.prog 31 #[.pointer none, .int .i64 0, .slice none 0 0] w fun e w' => e = .returned (.int .i64 1) ∧ Below w.heap.size w w'
  adopt : ∀ w : World, Calls Tryz.prog 23 #[.pointer none, .int .i64 0, .int .i64 1] w fun e w' => e = .returned (.int .i64 1) ∧ Below w.heap.size w w'
  free : ∀ w : World, Calls Tryz.prog 32 #[.pointer none, .int .i64 0] w fun e w' => e = .returned (.int .i64 1) ∧ Below w.heap.size w w'
  all : ∀ w : World, Calls Tryz.prog 15 #[.pointer none] w fun e w' => ∃ a cap, e = .returned (.slice a 0 cap) ∧ Below w.heap.size w w'
  changed : ∀ w : World, Calls Tryz.prog 18 #[.pointer none, .int .i64 0] w fun e w' => ∃ a cap, e = .returned (.slice a 0 cap) ∧ Below w.heap.size w w'
  gone : ∀ w : World, Calls Tryz.prog 19 #[.pointer none, .int .i64 0] w fun e w' => ∃ a cap, e = .returned (.slice a 0 cap) ∧ Below w.heap.size w w'
  tick : ∀ w : World, Calls Tryz.prog 13 #[.pointer none] w fun e w' => e = .returned (.int .i64 0) ∧ Below w.heap.size w w'
  next : ∀ w : World, Calls Tryz.prog 14 #[.pointer none] w fun e w' => e = .returned (.int .i64 0) ∧ Below w.heap.size w w'
theorem scx_holds : SCx LSB :=
  ⟨fun _ _ _ _ _ ⟨ls, lt, ⟨p, mb, ts, Lf, gv, lab, h, hF⟩, hI⟩ he => ⟨ls, lt, ⟨p, mb, ts, Lf, gv, lab, h.same (fun b hb => he b ((hF b).2 hb)), hF⟩, hI⟩,
   fun _ _ _ _ ⟨_, _, ⟨_, _, _, _, _, _, h, hF⟩, _⟩ b hb => h.inb b ((hF b).1 hb),
   fun w r hr => lnew_any w r hr, fun w x hx => lbad_any w x hx, fun _ _ _ _ P hW hB h => lspawn_any h hW hB P, fun _ _ _ _ id hW hB h => ldespawn_any h hW hB id,
   fun _ _ _ _ id P a n cap ks hW hB h _ row _ => lput_any h hW hB id P a n cap ks row, fun _ _ _ _ id a n cap ks hW hB h _ row _ => lcut_any h hW hB id a n cap ks row,
   fun _ _ _ _ a n cap xs _ _ h hn row haw => ltouch_any h a n cap xs hn row haw, fun _ _ _ _ id hW hB h => lget_any h hW hB id, fun _ _ _ _ hW _ h => lallD_any h hW,
   fun _ _ _ _ _ _ h => ltick_any h, fun _ _ _ _ _ hB h => lnext_any h hB, fun _ _ _ _ since hW _ h => lchanged_any h hW since, fun _ _ _ _ since _ hB h => lgone_any h hB since⟩
theorem fcx_holds : FCx LFB where
  keep_ _ _ _ _ _ h he := h.keep_ he
  inb _ _ _ _ h := h.inb
  rng _ _ _ _ h := by
    obtain ⟨gp, gc, bl, cp, h1, _⟩ := h
    exact h1.rng
  new w := lfnew_any w
  set _ _ _ _ _ _ hW hL h hc hp := lset_any h hW hL hc hp
  free _ _ _ _ _ _ _ _ hW hL h hn hr ha hx := lfree_any h hW hL hn hr ha hx
  drop _ _ _ _ _ hW hL h hx := ldrop_any h hW hL hx
  parent _ _ _ _ _ _ _ h hx := by
    obtain ⟨gp, gc, bl, cp, h1, _⟩ := h
    exact (lparent_any h1 hx).mono fun _ _ q => ⟨q.1, q.2 ▸ Below.refl _ _⟩
theorem sl_holds : SL LSB := by
  rintro w g F S ⟨ls, lt, ⟨p, mb, ts, Lf, gv, lab, h, hF⟩, hI⟩
  refine ⟨p, fun u q => ?_⟩
  have h1 := h.keep q
  refine ⟨?_, h1.row.lt, fun x => qlive p S.room S.G S.L x u h1.pool⟩
  exact h1.row.cell (i := 0) (by omega)
theorem xc_holds : XC (LXB LSB LFB) where
  kb := kb_lxb scx_holds.kb fcx_holds.kb
  new w r hr := lnew11_any scx_holds fcx_holds w r hr
  bad w x hx := lbad11_any scx_holds w x hx
  spawn _ _ _ _ P p hW hB h hp := lspawn11_any scx_holds fcx_holds sl_holds h hW hB P p hp
  despawn _ _ _ _ id hW hB h hi := ldespawn11_any scx_holds fcx_holds h hW hB id hi
  put _ _ _ _ id P a n cap ks hW hB h hn row haw := lput11_any scx_holds fcx_holds h hW hB id P a n cap ks hn row haw
  cut _ _ _ _ id a n cap ks hW hB h hn row haw := lcut11_any scx_holds fcx_holds h hW hB id a n cap ks hn row haw
  adopt _ _ _ _ c p hW hB h hc hp := ladopt11_any scx_holds fcx_holds sl_holds h hW hB c p hc hp
  free _ _ _ _ c hW hB h hc := lfree11_any scx_holds fcx_holds sl_holds h hW hB c hc
  get _ _ _ _ id hW hB h := lget11_any scx_holds fcx_holds h hW hB id
  parent _ _ _ _ id hW hB h hi := lparent11_any scx_holds fcx_holds h hW hB id hi
  all _ _ _ _ hW hB h := lall11_any scx_holds fcx_holds h hW hB
  tick _ _ _ _ hW hB h := ltick11_any scx_holds fcx_holds h hW hB
  next _ _ _ _ hW hB h := lnext11_any scx_holds fcx_holds h hW hB
  changed _ _ _ _ since hW hB h := lchanged11_any scx_holds fcx_holds h hW hB since
  gone _ _ _ _ since hW hB h := lgone11_any scx_holds fcx_holds h hW hB since
  node _ _ _ _ id hW hB h hi := lnode11_any scx_holds fcx_holds h hW hB id hi
theorem ChB.step {α : Type} {B : World → Nat → (Nat → Prop) → α → Prop} {b0 : Nat} {w0 w1 w2 : World} {g : Nat} {F : Nat → Prop} {x : α} (h : ChB B w1 w2 g F x) (hb : Below b0 w0 w1) (hF : ∀ b, F b → b0 ≤ b) (hs : b0 ≤ w1.heap.size) : ∃ F', B w2 g F' x ∧ Below b0 w0 w2 ∧ (∀ b, F' b → b0 ≤ b) ∧ b0 ≤ w2.heap.size := by
  obtain ⟨F', h1, h2, h3⟩ := h
  exact ⟨F', h1, Fr.below h2 hb hF hs, fun b hb => (h3 b hb).elim (fun c => hF b c) (fun c => Nat.le_trans hs c), Nat.le_trans hs h2.2.2.2.1⟩
def q16 : PT := (16, zI, 0, zI, 0, 0, false, 0)
def x110 : Sc := Sc0 5
def x111 : Sc := xspS x110 zT (-1)
def x112 : Sc := xspS x111 q16 0
def x113 : Sc := xneS x112
def x114 : Sc := xadS x113 0 1
def x115 : Sc := xdeS x114 0
theorem t111 : xspV x110 zT (-1) = 0 ∧ xspE x110 zT (-1) = 0 := by decide +kernel
theorem t112 : xspV x111 q16 0 = 1 ∧ xspE x111 q16 0 = 0 := by decide +kernel
theorem t114 : xadE x113 0 1 = 8 := by decide +kernel
theorem t115 : deE x114.S 0 = 0 := by decide +kernel
theorem t116 : getB x115.S 1 = true ∧ (nodeX x115 1).par = -1 ∧ (nodeX x115 1).hid = true ∧ (nodeX x115 1).pl 0 = 65536 := by decide +kernel
theorem t117 : chL x115.S 1 = [1] := by decide +kernel
theorem t118 : goL x115.S 1 = [0] := by decide +kernel
theorem wx110 : WX x110 := WX.zero (by omega)
theorem wx111 : WX x111 := wx110.sp _ _
theorem wx112 : WX x112 := wx111.sp _ _
theorem wx113 : WX x113 := wx112.ne
theorem wx114 : WX x114 := wx113.ad _ _
theorem wx115 : WX x115 := wx114.de _
theorem bx110 : BSc x110 0 := BSc.zero (by omega)
theorem bx111 : BSc x111 2 := bx110.sp _ _
theorem bx112 : BSc x112 4 := bx111.sp _ _
theorem bx113 : BSc x113 6 := bx112.ne
theorem bx114 : BSc x114 8 := bx113.ad _ _
theorem bx115 : BSc x115 10 := bx114.de wx114 _
structure N15 (Y : List Value) : Prop where
  nx : NXs Y 56
  c1 : Y[1]? = some (.int .i64 (-1))
  c2 : Y[2]? = some (.int .i64 65536)
  c14 : Y[14]? = some (.bool true)
theorem n15_any (n : Nd) (h1 : n.par = -1) (h2 : n.hid = true) (h3 : n.pl 0 = 65536) : N15 (cNd n) := ⟨nx_flow n, by rw [← h1]; rfl, by rw [← h3]; rfl, by rw [← h2]; rfl⟩
section
variable {XB : World → Nat → (Nat → Prop) → Sc → Prop}
set_option maxHeartbeats 8000000 in
set_option maxRecDepth 100000 in
theorem alive11_walk (hK : KB XB) (T0 T1 T2 T3 T4 T5 : Sc) (hnew : ∀ w : World, Calls Tryz.prog 7 #[.int .i64 5] w fun e w' => ∃ g F, e = .returned (.tuple #[.pointer (some ⟨g, 0, none⟩), .int .i64 0]) ∧ XB w' g F T0 ∧ (∀ b, F b → w.heap.size ≤ b) ∧ Below w.heap.size w w')
    (HS1_ : ∀ u g F, XB u g F T0 → Calls Tryz.prog 22 #[.pointer (some ⟨g, 0, none⟩), .agg #[.int .i64 0, .int .i64 0, .int .i64 0, .int .i64 0, .int .i64 0, .int .i64 0, .int .i64 0, .int .i64 0, .int .i64 0, .int .i64 0, .int .i64 0, .int .i64 0, .int .i64 0, .int .i64 0, .int .i64 0, .int .i64 0, .int .i64 0, .int .i64 0, .int .i64 0, .int .i64 0, .int .i64 0, .int .i64 0, .bool false, .int .i64 0], .int .i64 (-1)] u fun e w' => e = .returned (.tuple #[.int .i64 0, .int .i64 0]) ∧ ChB XB u w' g F T1)
    (HS2_ : ∀ u g F, XB u g F T1 → Calls Tryz.prog 22 #[.pointer (some ⟨g, 0, none⟩), .agg #[.int .i64 16, .int .i64 0, .int .i64 0, .int .i64 0, .int .i64 0, .int .i64 0, .int .i64 0, .int .i64 0, .int .i64 0, .int .i64 0, .int .i64 0, .int .i64 0, .int .i64 0, .int .i64 0, .int .i64 0, .int .i64 0, .int .i64 0, .int .i64 0, .int .i64 0, .int .i64 0, .int .i64 0, .int .i64 0, .bool false, .int .i64 0], .int .i64 0] u fun e w' => e = .returned (.tuple #[.int .i64 1, .int .i64 0]) ∧ ChB XB u w' g F T2)
    (HNe_ : ∀ u g F, XB u g F T2 → Calls Tryz.prog 14 #[.pointer (some ⟨g, 0, none⟩)] u fun e w' => (∃ z : Int, e = .returned (.int .i64 z)) ∧ ChB XB u w' g F T3)
    (HAd_ : ∀ u g F, XB u g F T3 → Calls Tryz.prog 23 #[.pointer (some ⟨g, 0, none⟩), .int .i64 0, .int .i64 1] u fun e w' => e = .returned (.int .i64 8) ∧ ChB XB u w' g F T4)
    (HDe_ : ∀ u g F, XB u g F T4 → Calls Tryz.prog 24 #[.pointer (some ⟨g, 0, none⟩), .int .i64 0] u fun e w' => e = .returned (.int .i64 0) ∧ ChB XB u w' g F T5)
    (HNd_ : ∀ u g F, XB u g F T5 → Calls Tryz.prog 16 #[.pointer (some ⟨g, 0, none⟩), .int .i64 1] u fun e w' => ∃ Y, e = .returned (.tuple #[.agg (List.toArray Y), .bool true]) ∧ N15 Y ∧ Below u.heap.size u w')
    (HCh_ : ∀ u g F, XB u g F T5 → Calls Tryz.prog 18 #[.pointer (some ⟨g, 0, none⟩), .int .i64 1] u fun e w' => ∃ v, e = .returned v ∧ LRes u w' [1] v ∧ Below u.heap.size u w')
    (HGo_ : ∀ u g F, XB u g F T5 → Calls Tryz.prog 19 #[.pointer (some ⟨g, 0, none⟩), .int .i64 1] u fun e w' => ∃ v, e = .returned v ∧ LRes u w' [0] v ∧ Below u.heap.size u w')
    (w : World) :
    Calls Tryz.prog 6 #[] w fun e w' => e = .returned (.bool true) ∧ Below w.heap.size w w' := by
  have HK := Lib.hid hK
  have HS1 := Lib.hid HS1_
  have HS2 := Lib.hid HS2_
  have HNe := Lib.hid HNe_
  have HAd := Lib.hid HAd_
  have HDe := Lib.hid HDe_
  have HNd := Lib.hid HNd_
  have HCh := Lib.hid HCh_
  have HGo := Lib.hid HGo_
  clear hK HS1_ HS2_ HNe_ HAd_ HDe_ HNd_ HCh_ HGo_
  go_enter Tryz.func6, Tryz.ntmps6
  go_wp2_with fail
  refine (hnew w).mono ?_
  rintro e w1 ⟨g, F, rfl, sb, hF, b1⟩
  have HS := Lib.hid sb
  have HB := Lib.hid (And.intro b1 (And.intro hF b1.size))
  clear sb hF b1
  go_wp2_with fail
  refine (HS1.out _ g F HS.out).mono ?_
  rintro e w2 ⟨rfl, ch⟩
  obtain ⟨F1, sb, hb⟩ := ch.step HB.out.1 HB.out.2.1 HB.out.2.2
  replace HS := Lib.hid sb
  replace HB := Lib.hid hb
  clear ch sb hb HS1
  go_wp2_with fail
  refine (HS2.out _ g F1 HS.out).mono ?_
  rintro e w3 ⟨rfl, ch⟩
  obtain ⟨F2, sb, hb⟩ := ch.step HB.out.1 HB.out.2.1 HB.out.2.2
  replace HS := Lib.hid sb
  replace HB := Lib.hid hb
  clear ch sb hb HS2
  go_wp2_with fail
  refine (HNe.out _ g F2 HS.out).mono ?_
  rintro e w4 ⟨⟨z, rfl⟩, ch⟩
  obtain ⟨F3, sb, hb⟩ := ch.step HB.out.1 HB.out.2.1 HB.out.2.2
  replace HS := Lib.hid sb
  replace HB := Lib.hid hb
  clear ch sb hb HNe
  go_wp2_with fail
  refine (HAd.out _ g F3 HS.out).mono ?_
  rintro e w5 ⟨rfl, ch⟩
  obtain ⟨F4, sb, hb⟩ := ch.step HB.out.1 HB.out.2.1 HB.out.2.2
  replace HS := Lib.hid sb
  replace HB := Lib.hid hb
  clear ch sb hb HAd
  go_wp2_with fail
  refine (HDe.out _ g F4 HS.out).mono ?_
  rintro e w6 ⟨rfl, ch⟩
  obtain ⟨F5, sb, hb⟩ := ch.step HB.out.1 HB.out.2.1 HB.out.2.2
  replace HS := Lib.hid sb
  replace HB := Lib.hid hb
  clear ch sb hb HDe
  go_wp2_with fail
  refine (HNd.out _ g F5 HS.out).mono ?_
  rintro e w7 ⟨Y, rfl, hY, b7⟩
  have HY := Lib.hid hY
  have hal : Below w7.heap.size w7 (w7.alloc (.cells (cNd n0d).toArray 56)) := alloc_below _ _
  have hbs : Below w7.heap.size w7 ((w7.alloc (.cells (cNd n0d).toArray 56)).setCells w7.heap.size 0 Y) := below_setCells Y hal (Nat.le_refl _)
  have HT9 : Hid ((w7.alloc (.cells (cNd n0d).toArray 56)).there w7.heap.size 0 Y.toArray.size) := Lib.hid (blk_there (Blk.new w7 _ _) (by rw [List.size_toArray, HY.out.nx.len]; exact Nat.le_refl 15))
  have L9 : Hid (Blk ((w7.alloc (.cells (cNd n0d).toArray 56)).setCells w7.heap.size 0 Y) w7.heap.size 56 Y.toArray ∧ Below w.heap.size w ((w7.alloc (.cells (cNd n0d).toArray 56)).setCells w7.heap.size 0 Y) ∧ XB ((w7.alloc (.cells (cNd n0d).toArray 56)).setCells w7.heap.size 0 Y) g F5 T5) := Lib.hid ⟨blk_over (Blk.new w7 _ _) (by rw [HY.out.nx.len]; rfl), bthen (bthen HB.out.1 b7) hbs, HK.out.keep (HK.out.keep HS.out b7) hbs⟩
  clear hY b7 hal hbs HNd
  go_upto_region 8 with (refine wpList_store_mid rfl 56 (.tmp 9) (.tmp 41) rfl w7.heap.size 0 Y.toArray rfl rfl HT9.out HY.out.nx.sizea HY.out.nx.onea ?_)
  refine fin (fun W => Blk W w7.heap.size 56 Y.toArray ∧ Below w.heap.size w W ∧ XB W g F5 T5) L9.out ?_
  rintro W ⟨k9, hb, sb⟩
  have c1 : W.cell? ⟨w7.heap.size, 1, none⟩ = some (.int .i64 (-1)) := by rw [k9.cell 1]; simpa using HY.out.c1
  have c2 : W.cell? ⟨w7.heap.size, 2, none⟩ = some (.int .i64 65536) := by rw [k9.cell 2]; simpa using HY.out.c2
  have c14 : W.cell? ⟨w7.heap.size, 14, none⟩ = some (.bool true) := by rw [k9.cell 14]; simpa using HY.out.c14
  have hlt := k9.lt
  replace HB := Lib.hid hb
  replace HS := Lib.hid sb
  clear k9 hb sb L9 HT9
  go_wp2_with fail
  refine (HCh.out _ g F5 HS.out).mono ?_
  rintro e w8 ⟨v, rfl, ⟨la, lc, rfl, lr, -⟩, b1⟩
  have HR := Lib.hid (row_keep lr (alloc_below w8 (.cells #[.int .i64 1] 31)))
  replace HB := Lib.hid (bthen HB.out b1)
  replace HS := Lib.hid (HK.out.keep HS.out b1)
  clear lr b1 HCh c1 c2 c14 hlt
  go_wp2_with fail
  refine (psame_yes HR.out (row1 _ _ _)).mono ?_
  rintro e w9 ⟨rfl, b2⟩
  replace HS := Lib.hid (HK.out.keep (HK.out.keep HS.out (alloc_below w8 (.cells #[.int .i64 1] 31))) b2)
  replace HB := Lib.hid (bthen (balloc HB.out (.cells #[.int .i64 1] 31)) b2)
  clear HR b2
  go_wp2_with fail
  refine (HGo.out _ g F5 HS.out).mono ?_
  rintro e x9 ⟨v, rfl, ⟨lb, ld, rfl, lr, -⟩, b1⟩
  have HR := Lib.hid (row_keep lr (alloc_below x9 (.cells #[.int .i64 0] 31)))
  replace HB := Lib.hid (bthen HB.out b1)
  clear lr b1 HGo HS
  go_wp2_with fail
  refine (psame_yes HR.out (row1 _ _ _)).mono ?_
  rintro e w10 ⟨rfl, b2⟩
  replace HB := Lib.hid (bthen (balloc HB.out (.cells #[.int .i64 0] 31)) b2)
  clear HR b2
  go_wp2
  go_ret
  exact ⟨rfl, HB.out⟩
theorem alive11_any (hX : XC XB) (w : World) : Calls Tryz.prog 6 #[] w fun e w' => e = .returned (.bool true) ∧ Below w.heap.size w w' :=
  alive11_walk hX.kb x110 x111 x112 x113 x114 x115 (fun w => hX.new w 5 (by omega))
    (fun u g F h => (hX.spawn u g F x110 zT (-1) wx110 (bx110.mono (by omega)) h (by decide)).mono fun _ _ k => ⟨by rw [k.1, t111.1, t111.2], k.2⟩)
    (fun u g F h => (hX.spawn u g F x111 q16 0 wx111 (bx111.mono (by omega)) h (by decide)).mono fun _ _ k => ⟨by rw [k.1, t112.1, t112.2], k.2⟩)
    (fun u g F h => (hX.next u g F x112 wx112 (bx112.mono (by omega)) h).mono fun _ _ k => ⟨⟨_, k.1⟩, k.2⟩)
    (fun u g F h => (hX.adopt u g F x113 0 1 wx113 (bx113.mono (by omega)) h (by decide) (by decide)).mono fun _ _ k => ⟨by rw [k.1, t114], k.2⟩)
    (fun u g F h => (hX.despawn u g F x114 0 wx114 (bx114.mono (by omega)) h (by decide)).mono fun _ _ k => ⟨by rw [k.1, t115], k.2⟩)
    (fun u g F h => (hX.node u g F x115 1 wx115 (bx115.mono (by omega)) h (by decide)).mono fun _ _ ⟨Y, k1, k2, k3⟩ => ⟨Y, by rw [k1, t116.1], by rw [k2]; exact n15_any _ t116.2.1 t116.2.2.1 t116.2.2.2, k3⟩)
    (fun u g F h => (hX.changed u g F x115 1 wx115 (bx115.mono (by omega)) h).mono fun _ _ k => by rw [t117] at k; exact k)
    (fun u g F h => (hX.gone u g F x115 1 wx115 (bx115.mono (by omega)) h).mono fun _ _ k => by rw [t118] at k; exact k) w
end
section
variable {XB : World → Nat → (Nat → Prop) → Sc → Prop}
end
end Go.Proofs.YtkondkajpmafkaaGreat
