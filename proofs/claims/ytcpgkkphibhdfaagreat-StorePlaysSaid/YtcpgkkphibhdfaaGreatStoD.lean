/-
  Fits, an act's entity, and an act of the law of layer 8, for any package that answers as the bundle says.
-/
import Derived.Test.YtcpgkkphibhdfaaGreatMSta
namespace Go.Proofs.YtcpgkkphibhdfaaGreat
open Go.RowKit

theorem tmod_at {x : Int} {n : Nat} (h0 : 0 ≤ x) (hn : 0 < n) : x.tmod (n : Int) = ((x % (n : Int)).toNat : Int) ∧ (x % (n : Int)).toNat < n := by
  have h1 := Int.emod_nonneg x (show (n : Int) ≠ 0 by omega)
  have h2 := Int.emod_lt_of_pos x (show (0 : Int) < n by omega)
  rw [Int.tmod_eq_emod_of_nonneg h0]
  omega
set_option maxHeartbeats 2000000 in
set_option maxRecDepth 100000 in
theorem actid_any (x : A8) (a : Option Addr) (n cap : Nat) (zs : List Int) (w : World) (ha : 0 ≤ x.at_ ∧ x.at_ ≤ 255) (hn : n ≤ 1000) (row : Row w a n zs) :
    Calls Tryz.prog 27 #[.agg (c8 x).toArray, .slice a n cap] w fun e w' => e = .returned (.int .i64 (idV x.any x.id x.at_ zs)) ∧ Below w.heap.size w w' := by
  have hl : zs.length = n := row.1
  have KA := Lib.hid (Blk.new w 47 (c8 x).toArray)
  have c1 : (w.alloc (.cells (c8 x).toArray 47)).cell? ⟨w.heap.size, 1, none⟩ = some (.int .u8 x.at_) := KA.out.cell 1
  have c2 : (w.alloc (.cells (c8 x).toArray 47)).cell? ⟨w.heap.size, 2, none⟩ = some (.bool x.any) := KA.out.cell 2
  have c3 : (w.alloc (.cells (c8 x).toArray 47)).cell? ⟨w.heap.size, 3, none⟩ = some (.int .i64 x.id) := KA.out.cell 3
  have HB : Hid (Below w.heap.size w (w.alloc (.cells (c8 x).toArray 47))) := Lib.hid (alloc_below _ _)
  have HR : Hid (Row (w.alloc (.cells (c8 x).toArray 47)) a n zs) := Lib.hid (row_keep row HB.out)
  obtain ⟨k, at_, any, id, P, aa, nn, cc, ks⟩ := x
  obtain ⟨X, hX⟩ : ∃ X, X = c8 ⟨k, at_, any, id, P, aa, nn, cc, ks⟩ := ⟨_, rfl⟩
  rw [← hX] at KA c1 c2 c3 HB HR ⊢
  simp only at c1 c2 c3 ha ⊢
  clear hX row
  cases any with
  | true =>
    have e : Hid (idV true id at_ zs = id) := Lib.hid rfl
    rw [e.out]
    go_enter Tryz.func27, Tryz.ntmps27
    go_wp2
    go_ret
    exact ⟨rfl, HB.out⟩
  | false =>
    by_cases h0 : n = 0
    · have e : Hid (idV false id at_ zs = id) := Lib.hid (by unfold idV; rw [hl, h0]; rfl)
      rw [e.out]
      subst h0
      clear hl
      go_enter Tryz.func27, Tryz.ntmps27
      go_wp2
      go_ret
      exact ⟨rfl, HB.out⟩
    · obtain ⟨t1, t2⟩ := tmod_at (n := n) ha.1 (by omega)
      obtain ⟨r, hr⟩ : ∃ r, r = (at_ % (n : Int)).toNat := ⟨_, rfl⟩
      rw [← hr] at t1 t2
      obtain ⟨b, off, y, rfl, hy, cy⟩ := row_at HR.out t2
      have e : Hid (idV false id at_ zs = y) := Lib.hid (by
        unfold idV
        have : (zs.length == 0) = false := by rw [hl]; simpa using h0
        rw [this, hl, ← hr]
        simp [List.getD, hy])
      rw [e.out]
      have hb := World.block_lt_of_cell? _ _ cy
      have n0 : ¬ (n : Int) = 0 := by omega
      have n1 : ((n : Int) == 0) = false := by simpa using h0
      have r0 : (0 : Int) ≤ (r : Int) := by omega
      have r1 : (r : Int) < (n : Int) := by omega
      have ha0 := ha.1
      have ha1 := ha.2
      clear hr hy hl ha
      go_enter Tryz.func27, Tryz.ntmps27
      go_wp2
      go_ret
      exact ⟨rfl, HB.out⟩

/-- a slice of acts -/
def ARow8 (w : World) (a : Option Addr) (len : Nat) (xs : List A8) : Prop := xs.length = len ∧ len ≤ 9223372036854775807 ∧ (len = 0 ∨ ∃ b off, a = some ⟨b, off, none⟩ ∧ b < w.heap.size ∧ ∀ i x, xs[i]? = some x → w.rangeAt b (off + i * 29) (c8 x) ∧ ok8 w x)
theorem ok8.keep {w w' : World} {x : A8} (h : ok8 w x) (hb : Below w.heap.size w w') : ok8 w' x := ⟨h.1, h.2.1, h.2.2.1, h.2.2.2.1, row_keep h.2.2.2.2 hb⟩
theorem ARow8.keep {w w' : World} {a : Option Addr} {n : Nat} {xs : List A8} (h : ARow8 w a n xs) (hb : Below w.heap.size w w') : ARow8 w' a n xs := ⟨h.1, h.2.1, h.2.2.imp id (fun ⟨b, o, e, hl, hr⟩ => ⟨b, o, e, Nat.lt_of_lt_of_le hl hb.size, fun i x hx => ⟨range_same (hr i x hx).1 (hb.block b hl), (hr i x hx).2.keep hb⟩⟩)⟩
theorem ARow8.at_ {w : World} {a : Option Addr} {n : Nat} {xs : List A8} (h : ARow8 w a n xs) {i : Nat} (hi : i < n) : ∃ b off x, a = some ⟨b, off, none⟩ ∧ xs[i]? = some x ∧ w.rangeAt b (off + i * 29) (c8 x) ∧ ok8 w x := by
  obtain ⟨h1, h2, h3⟩ := h
  rcases h3 with h3 | ⟨b, off, e, hb, hr⟩
  · omega
  · have hx : xs[i]? = some (xs[i]'(by omega)) := List.getElem?_eq_getElem (by omega)
    exact ⟨b, off, _, e, hx, hr i _ hx⟩
set_option maxHeartbeats 2000000 in
set_option maxRecDepth 100000 in
theorem fits8_any (a : Option Addr) (len cap : Nat) (xs : List A8) (w : World) (row : ARow8 w a len xs) :
    Calls Tryz.prog 5 #[.slice a len cap] w fun e w' => ∃ b, e = .returned (.bool b) ∧ (b = true → len ≤ 80 ∧ ∀ x ∈ xs, x.n ≤ 80) ∧ w = w' := by
  have hbig := row.2.1
  have HL := Lib.hid row.1
  have HRow := Lib.hid row
  clear row
  go_enter Tryz.func5, Tryz.ntmps5
  go_wp2
  go_loopw [3] (fun i wr => ∃ j : Nat, j ≤ len ∧ j ≤ 81 ∧ i = .int .i64 j ∧ (∀ q x, q < j → xs[q]? = some x → x.n ≤ 80) ∧ wr = w) (fun i _ => len - (intOf i).toNat)
  case atStart => exact ⟨0, by omega, by omega, rfl, fun q x hq => by omega, rfl⟩
  case round =>
    obtain ⟨j, hj, hj2, rfl, hz, rfl⟩ := hrel
    have HZ := Lib.hid hz
    clear hz
    by_cases hlt : j < len
    · have j1 : (j : Int) < (len : Int) := by omega
      have j0 : (0 : Int) ≤ (j : Int) := by omega
      by_cases h80 : j ≤ 80
      · have j2 : (j : Int) ≤ 80 := by omega
        obtain ⟨b, off, x, rfl, hx, hr, hok⟩ := HRow.out.at_ hlt
        have cx : wr.cell? ⟨b, off + j * 29 + 28, none⟩ = some (.slice x.a x.n x.cap) := hr 28 _ rfl
        have hb := World.block_lt_of_cell? _ _ cx
        have HX := Lib.hid hx
        have hxn := hok.2.2.2.2.2.1
        clear hr hok hx
        obtain ⟨xn, hxe⟩ : ∃ xn, xn = x.n := ⟨_, rfl⟩
        have HXE := Lib.hid hxe
        rw [← hxe] at cx hxn
        clear hxe
        by_cases hn : xn ≤ 80
        · have n1 : ¬ (80 : Int) < (xn : Int) := by omega
          go_wp2
          go_roundw
          case rel => exact ⟨j + 1, by omega, by omega, by go_num, fun q y hq hy => by
            rcases Nat.lt_succ_iff_lt_or_eq.1 hq with c | c
            · exact HZ.out q y c hy
            · rw [c, HX.out] at hy
              injection hy with hy
              rw [← hy, ← HXE.out]
              exact hn, by trivial⟩
          case measure => simp [intOf] <;> omega
        · have n1 : (80 : Int) < (xn : Int) := by omega
          go_wp2
          go_ret
          exact Or.inl ⟨rfl, rfl⟩
      · have j2 : ¬ (j : Int) ≤ 80 := by omega
        have hl80 : ¬ (len : Int) ≤ 80 := by omega
        go_wp2
        go_ret
        exact Or.inl ⟨rfl, rfl⟩
    · obtain rfl : j = len := by omega
      go_wp2
      go_ret
      refine ⟨decide ((j : Int) ≤ 80), rfl, fun c => ?_, rfl⟩
      have c' : (j : Int) ≤ 80 := by simpa using c
      refine ⟨by omega, fun x hx => ?_⟩
      obtain ⟨q, hq, e⟩ := List.mem_iff_getElem.1 hx
      exact HZ.out q x (by rw [HL.out] at hq; exact hq) (by rw [← e]; exact List.getElem?_eq_getElem hq)

section
variable {SB : World → Nat → (Nat → Prop) → St → Prop}
set_option maxHeartbeats 8000000 in
set_option maxRecDepth 100000 in
theorem does8_any (hC : SC SB) (g : Nat) (F : Nat → Prop) (S : St) (x : A8) (w : World) (hW : WS S) (hB : Bd S 1000) (hs : SB w g F S) (hx : ok8 w x) (haw : Aw F x.a x.n) (hn : x.n ≤ 80) :
    Calls Tryz.prog 23 #[.pointer (some ⟨g, 0, none⟩), .agg (c8 x).toArray] w fun e w' => e = .returned (.tuple #[]) ∧ Chg SB w w' g F (doS S x) := by
  have HK := Lib.hid hx
  have hk0 := hx.1
  have hk1 := hx.2.1
  have HAt : Hid (0 ≤ x.at_ ∧ x.at_ ≤ 255) := Lib.hid ⟨hx.2.2.1, hx.2.2.2.1⟩
  have HW := Lib.hid hW
  have HBd := Lib.hid hB
  have HAw := Lib.hid haw
  have HA : Hid (Below w.heap.size w (w.alloc (.cells (c8 x).toArray 47))) := Lib.hid (alloc_below _ _)
  have HSB := Lib.hid (hC.keep hs HA.out)
  have HC8 : Hid (∀ u, Blk u w.heap.size 47 (c8 x).toArray → u.cell? ⟨w.heap.size, 0, none⟩ = some (.int .u8 x.k) ∧ u.cell? ⟨w.heap.size, 3, none⟩ = some (.int .i64 x.id) ∧ u.cell? ⟨w.heap.size, 28, none⟩ = some (.slice x.a x.n x.cap) ∧ u.rangeAt w.heap.size 4 (pl x.P) ∧ u.rangeAt w.heap.size 0 (c8 x)) := Lib.hid (fun u k => ⟨k.cell 0, k.cell 3, k.cell 28, blk_range k 4 24, blk_whole k⟩)
  have KA := Lib.hid (Blk.new w 47 (c8 x).toArray)
  have HSz := Lib.hid (c8_size x)
  have HIA : Hid (∀ u a cap, Row u a (alS S).length (alS S) → Calls Tryz.prog 27 #[.agg (c8 x).toArray, .slice a (alS S).length cap] u fun e w' => e = .returned (.int .i64 (idA S x)) ∧ Below u.heap.size u w') := Lib.hid (fun u a cap hr => actid_any x a (alS S).length cap (alS S) u HAt.out (by have := all_len S.G S.L 256; unfold alS; omega) hr)
  obtain ⟨y, hy⟩ : ∃ y, y = idA S x := ⟨_, rfl⟩
  have HY := Lib.hid hy
  rw [← hy] at HIA
  have HDo := Lib.hid (show doS S x = doS S x from rfl)
  obtain ⟨X, hX⟩ : ∃ X, X = c8 x := ⟨_, rfl⟩
  rw [← hX] at HA HSB HC8 KA HSz HIA ⊢
  have hk10 : 0 ≤ x.k % 10 ∧ x.k % 10 < 10 := by omega
  clear hX hs hx hW hB haw hy HDo
  go_enter Tryz.func23, Tryz.ntmps23
  go_upto_region 1 with fail
  refine fin (fun W => Blk W w.heap.size 47 X.toArray ∧ Below w.heap.size w W ∧ SB W g F S) ⟨KA.out, HA.out, HSB.out⟩ ?_
  clear KA HA HSB
  rintro W ⟨ka, hb, sb⟩
  have KA := Lib.hid (Blk.drew ka)
  have HB : Hid (Below w.heap.size w W.drew) := Lib.hid ⟨hb.os, hb.tape, hb.output, hb.size, hb.block⟩
  have HS := Lib.hid (hC.keep_ W W.drew g F S sb (fun _ _ => rfl))
  clear ka hb sb
  refine wp_region_held_drew (S := fun w' => w'.rangeAt w.heap.size 0 X) (by kernel_rfl) ((HC8.out _ KA.out).2.2.2.2) (fun hHeld => ?_)
  refine wpAnyH_take (i := 0) (v := _) rfl (by kernel_rfl) (by kernel_rfl) (by kernel_rfl) (fun _ _ _ h => h) (yieldsIf_load_mid (by rfl) _ _ rfl _ _ rfl _ _ (fun _ h => h) Tryz.underlying47 rfl HSz.out) hHeld ?_
  simp only [Act.put, List.getElem_toArray, List.getElem_cons_zero, List.setIfInBounds_toArray, List.set_cons_zero, List.set_cons_succ]
  refine wpAnyH_take (i := 1) (v := ?_) rfl (by kernel_rfl) (by kernel_rfl) (by kernel_rfl) (fun _ _ _ h => h) (Or.inl ⟨by rfl, ?_⟩) hHeld ?_
  rotate_left
  · intro w hSw
    go_simp
    with_reducible rfl
  simp only [Act.put, List.getElem_toArray, List.getElem_cons_zero, List.getElem_cons_succ, List.setIfInBounds_toArray, List.set_cons_zero, List.set_cons_succ]
  refine wpAnyH_ready (rs := [2]) (by kernel_rfl) (by simp) ?_
  refine AllReadyH.cons rfl (fun K hK => ?_) AllReadyH.nil
  go_simp
  go_at_call 13
  refine (hC.all _ g F S HW.out HBd.out HS.out).mono ?_
  rintro e w1 ⟨v, rfl, lr, b1⟩
  obtain ⟨la, lcap, rfl, lrow, -⟩ := lr
  have HLr := Lib.hid lrow
  clear lrow
  go_wp2_with fail
  refine hK.out _ _ ((HC8.out _ (Blk.keep KA.out b1)).2.2.2.2) (fun hHeld => ?_)
  clear hK K
  replace KA := Lib.hid (Blk.keep KA.out b1)
  replace HB := Lib.hid (bthen HB.out b1)
  replace HS := Lib.hid (hC.keep HS.out b1)
  clear b1
  refine wpAnyH_ready (rs := [3]) (by kernel_rfl) (by simp) ?_
  refine AllReadyH.cons rfl (fun K hK => ?_) AllReadyH.nil
  go_simp
  go_at_call 27
  refine (HIA.out _ _ _ HLr.out).mono ?_
  rintro e w2 ⟨rfl, b1⟩
  go_wp2_with fail
  refine hK.out _ _ ((HC8.out _ (Blk.keep KA.out b1)).2.2.2.2) (fun hHeld => ?_)
  clear hK K
  replace KA := Lib.hid (Blk.keep KA.out b1)
  replace HB := Lib.hid (bthen HB.out b1)
  replace HS := Lib.hid (hC.keep HS.out b1)
  clear b1 HLr HIA
  refine wpAnyH_take (i := 4) (v := ?_) rfl (by kernel_rfl) (by kernel_rfl) (by kernel_rfl) (fun _ _ _ h => h) (Or.inl ⟨by rfl, ?_⟩) hHeld ?_
  rotate_left
  · intro w hSw
    go_simp
    with_reducible rfl
  simp only [Act.put, List.getElem_toArray, List.getElem_cons_zero, List.getElem_cons_succ, List.setIfInBounds_toArray, List.set_cons_zero, List.set_cons_succ]
  refine wpAnyH_done (by kernel_rfl) ?_ _
  clear hHeld
  refine fin (fun W => Blk W w.heap.size 47 X.toArray ∧ Below w.heap.size w W ∧ SB W g F S) ⟨KA.out, HB.out, HS.out⟩ ?_
  clear KA HB HS
  rintro W ⟨ka, hb, sb⟩
  obtain ⟨d0, d3, d28, rP, -⟩ := HC8.out _ ka
  have hwl := ka.lt
  have HRP := Lib.hid rP
  have HPz := Lib.hid (pl_size x.P)
  have HB := Lib.hid hb
  have HS := Lib.hid sb
  have HRow : Hid (Row W x.a x.n x.ks) := Lib.hid (row_keep HK.out.2.2.2.2 hb)
  clear ka hb sb rP HC8
  have HD : Hid (doS S x = if x.k % 10 = 3 then deS S y else if x.k % 10 = 4 ∨ x.k % 10 = 5 then puS S y x.P x.ks else if x.k % 10 = 6 ∨ x.k % 10 = 7 then cuS S y x.ks else if x.k % 10 = 8 then toS S [y, x.id] else if x.k % 10 = 9 then neS S else spS S x.P) := Lib.hid (by rw [HY.out]; rfl)
  have hcases : x.k % 10 = 0 ∨ x.k % 10 = 1 ∨ x.k % 10 = 2 ∨ x.k % 10 = 3 ∨ x.k % 10 = 4 ∨ x.k % 10 = 5 ∨ x.k % 10 = 6 ∨ x.k % 10 = 7 ∨ x.k % 10 = 8 ∨ x.k % 10 = 9 := by omega
  clear HK HY HAt
  obtain ⟨k, at_, any, id, P, aa, nn, cc, ks⟩ := x
  simp only at d0 d3 d28 HRP HPz HRow HD hcases hk0 hk1 hn HAw hk10 ⊢
  rcases hcases with h | h | h | h | h | h | h | h | h | h
  · have HE : Hid (doS S ⟨k, at_, any, id, P, aa, nn, cc, ks⟩ = spS S P) := Lib.hid (by rw [HD.out, h]; simp)
    clear HD
    go_wp2_with (refine wpList_load_mid rfl 44 (.tmp 13) rfl w.heap.size 4 rfl (pl P) _ HRP.out Tryz.underlying44 rfl HPz.out ?_)
    refine (hC.spawn _ g F S P HW.out HBd.out HS.out).mono ?_
    rintro e w3 ⟨rfl, ch⟩
    have HCh := Lib.hid (Chg.of ch HB.out)
    clear ch
    go_wp2
    go_end0
    exact ⟨rfl, by rw [HE.out]; exact HCh.out⟩
  · have HE : Hid (doS S ⟨k, at_, any, id, P, aa, nn, cc, ks⟩ = spS S P) := Lib.hid (by rw [HD.out, h]; simp)
    clear HD
    go_wp2_with (refine wpList_load_mid rfl 44 (.tmp 13) rfl w.heap.size 4 rfl (pl P) _ HRP.out Tryz.underlying44 rfl HPz.out ?_)
    refine (hC.spawn _ g F S P HW.out HBd.out HS.out).mono ?_
    rintro e w3 ⟨rfl, ch⟩
    have HCh := Lib.hid (Chg.of ch HB.out)
    clear ch
    go_wp2
    go_end0
    exact ⟨rfl, by rw [HE.out]; exact HCh.out⟩
  · have HE : Hid (doS S ⟨k, at_, any, id, P, aa, nn, cc, ks⟩ = spS S P) := Lib.hid (by rw [HD.out, h]; simp)
    clear HD
    go_wp2_with (refine wpList_load_mid rfl 44 (.tmp 13) rfl w.heap.size 4 rfl (pl P) _ HRP.out Tryz.underlying44 rfl HPz.out ?_)
    refine (hC.spawn _ g F S P HW.out HBd.out HS.out).mono ?_
    rintro e w3 ⟨rfl, ch⟩
    have HCh := Lib.hid (Chg.of ch HB.out)
    clear ch
    go_wp2
    go_end0
    exact ⟨rfl, by rw [HE.out]; exact HCh.out⟩
  · have HE : Hid (doS S ⟨k, at_, any, id, P, aa, nn, cc, ks⟩ = deS S y) := Lib.hid (by rw [HD.out, h]; simp)
    clear HD
    go_wp2_with fail
    refine (hC.despawn _ g F S y HW.out HBd.out HS.out).mono ?_
    rintro e w3 ⟨rfl, ch⟩
    have HCh := Lib.hid (Chg.of ch HB.out)
    clear ch
    go_wp2
    go_end0
    exact ⟨rfl, by rw [HE.out]; exact HCh.out⟩
  · have HE : Hid (doS S ⟨k, at_, any, id, P, aa, nn, cc, ks⟩ = puS S y P ks) := Lib.hid (by rw [HD.out, h]; simp)
    clear HD
    go_wp2_with (refine wpList_load_mid rfl 44 (.tmp 26) rfl w.heap.size 4 rfl (pl P) _ HRP.out Tryz.underlying44 rfl HPz.out ?_)
    refine (hC.put _ g F S y P aa nn cc ks HW.out HBd.out HS.out (by omega) HRow.out HAw.out).mono ?_
    rintro e w3 ⟨rfl, ch⟩
    have HCh := Lib.hid (Chg.of ch HB.out)
    clear ch
    go_wp2
    go_end0
    exact ⟨rfl, by rw [HE.out]; exact HCh.out⟩
  · have HE : Hid (doS S ⟨k, at_, any, id, P, aa, nn, cc, ks⟩ = puS S y P ks) := Lib.hid (by rw [HD.out, h]; simp)
    clear HD
    go_wp2_with (refine wpList_load_mid rfl 44 (.tmp 26) rfl w.heap.size 4 rfl (pl P) _ HRP.out Tryz.underlying44 rfl HPz.out ?_)
    refine (hC.put _ g F S y P aa nn cc ks HW.out HBd.out HS.out (by omega) HRow.out HAw.out).mono ?_
    rintro e w3 ⟨rfl, ch⟩
    have HCh := Lib.hid (Chg.of ch HB.out)
    clear ch
    go_wp2
    go_end0
    exact ⟨rfl, by rw [HE.out]; exact HCh.out⟩
  · have HE : Hid (doS S ⟨k, at_, any, id, P, aa, nn, cc, ks⟩ = cuS S y ks) := Lib.hid (by rw [HD.out, h]; simp)
    clear HD
    go_wp2_with fail
    refine (hC.cut _ g F S y aa nn cc ks HW.out HBd.out HS.out (by omega) HRow.out HAw.out).mono ?_
    rintro e w3 ⟨rfl, ch⟩
    have HCh := Lib.hid (Chg.of ch HB.out)
    clear ch
    go_wp2
    go_end0
    exact ⟨rfl, by rw [HE.out]; exact HCh.out⟩
  · have HE : Hid (doS S ⟨k, at_, any, id, P, aa, nn, cc, ks⟩ = cuS S y ks) := Lib.hid (by rw [HD.out, h]; simp)
    clear HD
    go_wp2_with fail
    refine (hC.cut _ g F S y aa nn cc ks HW.out HBd.out HS.out (by omega) HRow.out HAw.out).mono ?_
    rintro e w3 ⟨rfl, ch⟩
    have HCh := Lib.hid (Chg.of ch HB.out)
    clear ch
    go_wp2
    go_end0
    exact ⟨rfl, by rw [HE.out]; exact HCh.out⟩
  · have HE : Hid (doS S ⟨k, at_, any, id, P, aa, nn, cc, ks⟩ = toS S [y, id]) := Lib.hid (by rw [HD.out, h]; simp)
    clear HD
    have HS2 := Lib.hid (hC.keep HS.out (alloc_below W (.cells #[.int .i64 y, .int .i64 id] 35)))
    have HAw2 : Hid (Aw F (some ⟨W.heap.size, 0, none⟩) 2) := Lib.hid (Or.inr (fun ad e hf => by
      injection e with e
      rw [← e] at hf
      have := hC.inb _ g F S HS.out _ hf
      have h2 : W.heap.size < W.heap.size := this
      omega))
    go_wp2_with fail
    refine (hC.touch _ g F S (some ⟨W.heap.size, 0, none⟩) 2 2 [y, id] HW.out HBd.out HS2.out (by omega) (row2 _ _ _ _) HAw2.out).mono ?_
    rintro e w3 ⟨rfl, ch⟩
    have HCh := Lib.hid (Chg.of ch (balloc HB.out _))
    clear ch
    go_wp2
    go_end0
    exact ⟨rfl, by rw [HE.out]; exact HCh.out⟩
  · have HE : Hid (doS S ⟨k, at_, any, id, P, aa, nn, cc, ks⟩ = neS S) := Lib.hid (by rw [HD.out, h]; simp)
    clear HD
    go_wp2_with fail
    refine (hC.next _ g F S HW.out HBd.out HS.out).mono ?_
    rintro e w3 ⟨rfl, ch⟩
    have HCh := Lib.hid (Chg.of ch HB.out)
    clear ch
    go_wp2
    go_end0
    exact ⟨rfl, by rw [HE.out]; exact HCh.out⟩
end
end Go.Proofs.YtcpgkkphibhdfaaGreat
