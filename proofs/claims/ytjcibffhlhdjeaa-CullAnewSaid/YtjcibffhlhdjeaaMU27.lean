/-
  The landed cull: Look.
-/
import Derived.Test.YtjcibffhlhdjeaaMU26
namespace Go.Proofs.Ytjcibffhlhdjeaa
open Go.RowKit

section
variable {w : World} {p : Cq} {K : Ku}
set_option maxHeartbeats 16000000 in
set_option maxRecDepth 100000 in
theorem clook15_any (hk : KOk K) (hKl : K.R.length ≤ 200) (hK : LiK K p) (h : LC w p) (a : Option Addr) (n cap : Nat) (X : List (Nat → Int)) (E : Nat → Int) (m : Int) (row : PlRow w a n X) (hX : n ≤ 1000) :
    Calls Try.prog 9 #[.pointer (some ⟨p.g, 0, none⟩), .agg (cVw (.slice a n cap) E m).toArray] w fun e w' => e = .returned (.tuple #[.bool (lookA K ⟨X, E, m⟩).1, .int .i64 (lookA K ⟨X, E, m⟩).2]) ∧ ∃ q, q.g = p.g ∧ ChC w w' p q ∧ LiK (lookS K ⟨X, E, m⟩) q := by
  obtain ⟨ok, hok⟩ : ∃ ok, okVw ⟨X, E, m⟩ = ok := ⟨_, rfl⟩
  have HRow := Lib.hid row
  have HH := Lib.hid h
  have HSt : Hid (∀ u, Below w.heap.size w u → ChC w u p p) := Lib.hid (fun u q => ChC.still h q)
  have HRt : Hid (∀ W, PlRow W a n X → Calls Try.prog 21 #[.agg (cVw (.slice a n cap) E m).toArray] W fun e w' => e = .returned (.bool ok) ∧ Below W.heap.size W w') := Lib.hid (fun W r => viwright_b r hok)
  have HSm : Hid (∀ (W : World) (a' : Option Addr) (n' cap' : Nat) (u : Vw), PlRow W a' n' u.ps → PlRow W a n X → Calls Try.prog 22 #[.agg (cVw (.slice a' n' cap') u.eye u.m).toArray, .agg (cVw (.slice a n cap) E m).toArray] W fun e w' => e = .returned (.bool (sameV u ⟨X, E, m⟩)) ∧ Below W.heap.size W w') := Lib.hid (fun W a' n' cap' u r r' => same14_any a' n' cap' u.ps u.eye u.m a n cap X E m W r r')
  have HCn : Hid (∀ W, PlRow W a n X → Calls Try.prog 23 #[.agg (cVw (.slice a n cap) E m).toArray] W fun e w' => ∃ sa sn sc, e = .returned (.agg (cVw (.slice sa sn sc) E m).toArray) ∧ OwnX 4 cPl 40 w' W.heap.size (.slice sa sn sc) X ∧ Below W.heap.size W w') := Lib.hid (fun W r => (vclone_any a n cap X E m W r (by omega)).mono (fun e w' ⟨v, he, ho, hb⟩ => by
    obtain ⟨sa, sc, rfl, -⟩ := ho.row cPl_len
    exact ⟨sa, _, sc, he, ho.low (by omega), hb⟩))
  have HSo : Hid (∀ W v, ChC w W p (vC p v (some ⟨X, E, m⟩)) → ok = true → sameO K.V ⟨X, E, m⟩ = false → Calls Try.prog 24 #[.pointer (some ⟨p.g, 0, none⟩)] W fun e w' => e = .returned (.tuple #[]) ∧ ∃ q, q.g = p.g ∧ ChC w w' p q ∧ LiK (lookS K ⟨X, E, m⟩) q) := Lib.hid (fun W v k ho hs => by
    refine (csoil_any k.1 (K.R.map Rc.id) (fun z hz => hK.names hz) (by rw [List.length_map]; omega) (fun z hz => hK.dr hk hz)).mono ?_
    rintro e w' ⟨rfl, hc⟩
    refine ⟨rfl, stC (vC p v (some ⟨X, E, m⟩)) p.R (soilD p.R) (fun _ => none), rfl, k.join hc, ?_⟩
    rw [(look_new (hok.trans ho) hs).2]
    exact soil_lik (some ⟨X, E, m⟩) K.S K.n (p := vC p v (some ⟨X, E, m⟩)) rfl hK.r hK.n hK.up)
  have HSv : Hid (∀ (wb : World) sa sn sc, Below w.heap.size w wb → OwnX 4 cPl 40 wb w.heap.size (.slice sa sn sc) X → (ChC w ((wb.setCells p.g 0 (cVw (.slice sa sn sc) E m)).setCell ⟨p.g, 6, none⟩ (.bool true)) p (vC p (.slice sa sn sc) (some ⟨X, E, m⟩))) ∧ wb.there p.g 0 (cVw (.slice sa sn sc) E m).toArray.size ∧ (wb.setCells p.g 0 (cVw (.slice sa sn sc) E m)).cell? ⟨p.g, 6, none⟩ = some (.bool K.V.isSome) ∧ (wb.setCells p.g 0 (cVw (.slice sa sn sc) E m)).frozen? ⟨p.g, 6, none⟩ = false ∧ p.g < (wb.setCells p.g 0 (cVw (.slice sa sn sc) E m)).heap.size ∧ p.g < wb.heap.size) := Lib.hid (fun wb sa sn sc hb ho => by
    have hk1 := h.keep hb
    have hm := hk1.midC (.slice sa sn sc) E m
    rw [hK.v] at hm
    exact ⟨h.setV hb (v := .slice sa sn sc) (V' := some ⟨X, E, m⟩) (ho.low (Nat.zero_le _)) (fun b e => (ho.lt b e).1), hk1.there, hm.1, hm.2.1, hm.2.2, hk1.cells.2.2.2.2.2⟩)
  have HNo : Hid (ok = false → lookA K ⟨X, E, m⟩ = (false, 1) ∧ lookS K ⟨X, E, m⟩ = K) := Lib.hid (fun q => look_bad (hok.trans q))
  have HSa : Hid (ok = true → sameO K.V ⟨X, E, m⟩ = true → lookA K ⟨X, E, m⟩ = (false, 0) ∧ lookS K ⟨X, E, m⟩ = K) := Lib.hid (fun q k => look_same (hok.trans q) k)
  have HNw : Hid (ok = true → sameO K.V ⟨X, E, m⟩ = false → lookA K ⟨X, E, m⟩ = (true, 0)) := Lib.hid (fun q k => (look_new (hok.trans q) k).1)
  have HLk := Lib.hid hK
  have HB0 : Hid (Below w.heap.size w (w.alloc (.cells (cVw (.slice a n cap) E m).toArray 42))) := Lib.hid (alloc_below _ _)
  have HK0 := Lib.hid (Blk.new w 42 (cVw (.slice a n cap) E m).toArray)
  have HVz := Lib.hid (vw_size (.slice a n cap) E m)
  obtain ⟨XV, hXV⟩ : ∃ XV, XV = cVw (.slice a n cap) E m := ⟨_, rfl⟩
  rw [← hXV] at HRt HSm HCn HB0 HK0 HVz ⊢
  obtain ⟨g, hge⟩ : ∃ g, g = p.g := ⟨_, rfl⟩
  have HG := Lib.hid hge
  have HC6 : Hid (∀ u, Below w.heap.size w u → u.cell? ⟨g, 6, none⟩ = some (.bool K.V.isSome) ∧ u.rangeAt g 0 (cVw p.vs (eyO K.V) (mO K.V)) ∧ g < u.heap.size) := Lib.hid (fun u k => by
    have h1 := h.keep k
    have h2 := h1.cells
    have h3 := h1.range
    rw [hK.v] at h2 h3
    rw [hge]
    exact ⟨h2.1, h3, h2.2.2.2.2.2⟩)
  have HSd : Hid (∀ u, K.V = some u → ∃ a' cap', p.vs = .slice a' u.ps.length cap' ∧ PlRow w a' u.ps.length u.ps) := Lib.hid (fun u e => by
    have h1 := h.sid
    rw [hK.v, e] at h1
    obtain ⟨a', cap', he, _, _, hr⟩ := h1.row cPl_len
    exact ⟨a', cap', he, hr⟩)
  rw [← hge] at HSo HSv ⊢
  clear h row hok hXV hk hKl hK hge HH
  go_enter Try.func9, Try.ntmps9
  go_upto_region 1 with fail
  refine fin (fun W => Below w.heap.size w W ∧ Blk W w.heap.size 42 XV.toArray) ⟨HB0.out, HK0.out⟩ ?_
  clear HB0 HK0
  rintro W0 ⟨b0, k0⟩
  have HB0 := Lib.hid b0
  have HK0 := Lib.hid k0
  have HR0 : Hid (W0.rangeAt w.heap.size 0 XV) := Lib.hid (blk_whole k0)
  have z0 := k0.lt
  clear b0 k0
  go_wp2_with (refine wpList_load_g (by rfl) 42 (.tmp 3) rfl w.heap.size 0 rfl XV _ HR0.out Try.underlying42 rfl HVz.out ?_)
  refine (HRt.out _ (HRow.out.keep HB0.out)).mono ?_
  rintro e W1 ⟨rfl, b1⟩
  have HB1 : Hid (Below w.heap.size w W1) := Lib.hid (bthen HB0.out b1)
  have HK1 := Lib.hid (HK0.out.keep b1)
  clear HB0 HK0 HR0 z0 b1 HRt
  cases ok with
  | false =>
    have HS := Lib.hid (HSt.out _ HB1.out)
    have HE := Lib.hid (HNo.out rfl)
    go_wp2
    go_ret2
    exact ⟨by rw [HE.out.1]; rfl, p, HG.out.symm, HS.out, by rw [HE.out.2]; exact HLk.out⟩
  | true =>
    obtain ⟨c6, rg, hg⟩ := HC6.out W1 HB1.out
    cases e : K.V with
    | none =>
      rw [e] at c6
      have c6' : W1.cell? ⟨g, 6, none⟩ = some (.bool false) := c6
      have HC := Lib.hid c6'
      have HSo0 : Hid (sameO K.V ⟨X, E, m⟩ = false) := Lib.hid (by rw [e]; rfl)
      clear c6 c6' rg HC6 HSd HSm e
      go_upto_region 3 with fail
      refine wp_region_held_drew (S := fun w' => w'.cell? ⟨g, 6, none⟩ = some (.bool false)) (by kernel_rfl) (HC.out) (fun hHeld => ?_)
      refine tk 0 hHeld ?_
      refine tk 1 hHeld ?_
      refine tk 2 hHeld ?_
      refine tk 3 hHeld ?_
      refine tk 4 hHeld ?_
      refine tks 5 hHeld ?_
      refine tks 6 hHeld ?_
      refine tks 7 hHeld ?_
      refine tks 8 hHeld ?_
      refine tks 9 hHeld ?_
      refine tks 10 hHeld ?_
      refine tk 11 hHeld ?_
      refine wpAnyH_done (by kernel_rfl) ?_ _
      clear hHeld HC
      go_upto_region 5 with fail
      refine fin (fun W => Below w.heap.size w W ∧ Blk W w.heap.size 42 XV.toArray) ⟨by first | exact bthen HB1.out (below_drew15 _) | exact HB1.out, by first | exact HK1.out.keep (below_drew15 _) | exact HK1.out⟩ ?_
      clear HB1 HK1 hg
      rintro W3 ⟨b3, k3⟩
      have HB3 := Lib.hid b3
      have HK3 := Lib.hid k3
      clear b3 k3
      clear HSt HNo HSa
      have hr3 : W3.rangeAt w.heap.size 0 XV := blk_whole HK3.out
      have HR3 := Lib.hid hr3
      have hz3 := HK3.out.lt
      have HCl := Lib.hid (HCn.out W3 (HRow.out.keep HB3.out))
      clear hr3 HCn HRow
      go_wp2_with (refine wpList_load_mid rfl 42 (.tmp 3) rfl w.heap.size 0 rfl XV _ HR3.out Try.underlying42 rfl HVz.out ?_)
      refine HCl.out.mono ?_
      rintro e W4 ⟨sa, sn, sc, rfl, ho, hb4⟩
      obtain ⟨k1, k2, k3, k4, k5, k6⟩ := HSv.out W4 sa sn sc (bthen HB3.out hb4) (ho.low (Nat.le_of_lt hz3))
      have HS5 := Lib.hid k1
      have HT := Lib.hid k2
      have hi : (Try.prog.info? 42).map (·.size) = some (cVw (.slice sa sn sc) E m).toArray.size := vw_size (.slice sa sn sc) E m
      have HI := Lib.hid hi
      have HO := Lib.hid (vw_one sa sn sc E m)
      obtain ⟨XQn, hXQn⟩ : ∃ XQn, XQn = cVw (.slice sa sn sc) E m := ⟨_, rfl⟩
      rw [← hXQn] at HS5 HT HI HO k3 k4 k5 ⊢
      clear k1 k2 ho hb4 hi HSv HCl HR3 HVz HK3 HB3 hz3 hXQn
      go_upto_region 6 with (refine wpList_store_mid rfl 42 (.tmp 30) (.tmp 28) rfl g 0 XQn.toArray rfl rfl HT.out HI.out HO.out ?_)
      refine fin (fun W => ChC w W p (vC p (.slice sa sn sc) (some ⟨X, E, m⟩))) HS5.out ?_
      clear HS5 HT HI HO k3 k4 k5 k6
      rintro W5 hc
      have HS6 := Lib.hid (HSo.out W5 _ hc (by first | rfl | trivial) HSo0.out)
      clear hc
      go_wp2_with fail
      refine HS6.out.mono ?_
      rintro e W6 ⟨rfl, hq⟩
      have HQ := Lib.hid hq
      clear hq HSo HS6
      go_wp2
      go_ret2
      exact ⟨by rw [HNw.out (by first | rfl | trivial) HSo0.out]; rfl, HQ.out⟩
    | some u =>
      obtain ⟨a', cap', hvs, row'⟩ := HSd.out u e
      rw [e] at c6 rg
      rw [hvs] at rg
      have c6' : W1.cell? ⟨g, 6, none⟩ = some (.bool true) := c6
      have rg' : W1.rangeAt g 0 (cVw (.slice a' u.ps.length cap') u.eye u.m) := rg
      have HRow' := Lib.hid (row'.keep HB1.out)
      have HXu := Lib.hid (vw_size (.slice a' u.ps.length cap') u.eye u.m)
      have HX5 : Hid (W1.cell? ⟨g, 6, none⟩ = some (.bool true) ∧ W1.rangeAt g 0 (cVw (.slice a' u.ps.length cap') u.eye u.m) ∧ W1.rangeAt w.heap.size 0 XV) := Lib.hid ⟨c6', rg', blk_whole HK1.out⟩
      have HS5 := Lib.hid (fun W r r' => HSm.out W a' u.ps.length cap' u r r')
      obtain ⟨q, hq⟩ : ∃ q, q = u.ps.length := ⟨_, rfl⟩
      obtain ⟨XU, hXU⟩ : ∃ XU, XU = cVw (.slice a' u.ps.length cap') u.eye u.m := ⟨_, rfl⟩
      obtain ⟨sb, hsb⟩ : ∃ sb, sb = sameV u ⟨X, E, m⟩ := ⟨_, rfl⟩
      have HSo1 : Hid (sameO K.V ⟨X, E, m⟩ = sb) := Lib.hid (by rw [e, hsb]; rfl)
      rw [← hXU] at HXu HX5 HS5
      rw [← hsb] at HS5
      have z1 := HK1.out.lt
      clear c6 c6' rg rg' HC6 HSd HSm hvs row' hq hXU hsb e
      go_upto_region 3 with fail
      refine wp_region_held_drew (S := fun w' => w'.cell? ⟨g, 6, none⟩ = some (.bool true) ∧ w'.rangeAt g 0 XU ∧ w'.rangeAt w.heap.size 0 XV) (by kernel_rfl) (HX5.out) (fun hHeld => ?_)
      refine tk 0 hHeld ?_
      refine tk 1 hHeld ?_
      refine tk 2 hHeld ?_
      refine tk 3 hHeld ?_
      refine tk 4 hHeld ?_
      refine tk 5 hHeld ?_
      refine tk 6 hHeld ?_
      refine tk 7 hHeld ?_
      refine tkl 8 rfl (yieldsIf_load_mid (by rfl) _ _ rfl _ _ rfl _ _ (fun _ h => h.2.1) Try.underlying42 rfl HXu.out) hHeld ?_
      refine tkl 9 rfl (yieldsIf_load_mid (by rfl) _ _ rfl _ _ rfl _ _ (fun _ h => h.2.2) Try.underlying42 rfl HVz.out) hHeld ?_
      refine rd 10 (fun K hK => ?_)
      go_simp
      go_at_call 22
      refine (HS5.out _ (HRow'.out.keep (below_drew15 _)) (HRow.out.keep (bthen HB1.out (below_drew15 _)))).mono ?_
      rintro e w3 ⟨rfl, b3⟩
      have HB13 : Hid (Below W1.heap.size W1 w3) := Lib.hid (bthen (below_drew15 _) b3)
      have HX3 : Hid (w3.cell? ⟨g, 6, none⟩ = some (.bool true) ∧ w3.rangeAt g 0 XU ∧ w3.rangeAt w.heap.size 0 XV) := Lib.hid ⟨cell_keep HX5.out.1 HB13.out, range_same HX5.out.2.1 (HB13.out.block _ hg), range_same HX5.out.2.2 (HB13.out.block _ z1)⟩
      clear b3
      go_wp2_with fail
      refine hK.out _ _ (HX3.out) (fun hHeld => ?_)
      clear hK K
      refine tk 11 hHeld ?_
      refine wpAnyH_done (by kernel_rfl) ?_ _
      clear hHeld
      have HB3 : Hid (Below w.heap.size w w3) := Lib.hid (bthen HB1.out HB13.out)
      have HK3 := Lib.hid (HK1.out.keep HB13.out)
      clear HB1 HK1 HX5 HX3 HB13 z1 hg HRow' HXu HS5
      cases sb with
      | true =>
        have HS := Lib.hid (HSt.out _ HB3.out)
        have HE := Lib.hid (HSa.out (by first | rfl | trivial) HSo1.out)
        go_wp2
        go_ret2
        exact ⟨by rw [HE.out.1]; rfl, p, HG.out.symm, HS.out, by rw [HE.out.2]; exact HLk.out⟩
      | false =>
        have HSo0 := HSo1
        clear HSo1
        go_upto_region 5 with fail
        refine fin (fun W => Below w.heap.size w W ∧ Blk W w.heap.size 42 XV.toArray) ⟨HB3.out, HK3.out⟩ ?_
        clear HB3 HK3
        rintro W3 ⟨b3, k3⟩
        have HB3 := Lib.hid b3
        have HK3 := Lib.hid k3
        clear b3 k3
        clear HSt HNo HSa
        have hr3 : W3.rangeAt w.heap.size 0 XV := blk_whole HK3.out
        have HR3 := Lib.hid hr3
        have hz3 := HK3.out.lt
        have HCl := Lib.hid (HCn.out W3 (HRow.out.keep HB3.out))
        clear hr3 HCn HRow
        go_wp2_with (refine wpList_load_mid rfl 42 (.tmp 3) rfl w.heap.size 0 rfl XV _ HR3.out Try.underlying42 rfl HVz.out ?_)
        refine HCl.out.mono ?_
        rintro e W4 ⟨sa, sn, sc, rfl, ho, hb4⟩
        obtain ⟨k1, k2, k3, k4, k5, k6⟩ := HSv.out W4 sa sn sc (bthen HB3.out hb4) (ho.low (Nat.le_of_lt hz3))
        have HS5 := Lib.hid k1
        have HT := Lib.hid k2
        have hi : (Try.prog.info? 42).map (·.size) = some (cVw (.slice sa sn sc) E m).toArray.size := vw_size (.slice sa sn sc) E m
        have HI := Lib.hid hi
        have HO := Lib.hid (vw_one sa sn sc E m)
        obtain ⟨XQn, hXQn⟩ : ∃ XQn, XQn = cVw (.slice sa sn sc) E m := ⟨_, rfl⟩
        rw [← hXQn] at HS5 HT HI HO k3 k4 k5 ⊢
        clear k1 k2 ho hb4 hi HSv HCl HR3 HVz HK3 HB3 hz3 hXQn
        go_upto_region 6 with (refine wpList_store_mid rfl 42 (.tmp 30) (.tmp 28) rfl g 0 XQn.toArray rfl rfl HT.out HI.out HO.out ?_)
        refine fin (fun W => ChC w W p (vC p (.slice sa sn sc) (some ⟨X, E, m⟩))) HS5.out ?_
        clear HS5 HT HI HO k3 k4 k5 k6
        rintro W5 hc
        have HS6 := Lib.hid (HSo.out W5 _ hc (by first | rfl | trivial) HSo0.out)
        clear hc
        go_wp2_with fail
        refine HS6.out.mono ?_
        rintro e W6 ⟨rfl, hq⟩
        have HQ := Lib.hid hq
        clear hq HSo HS6
        go_wp2
        go_ret2
        exact ⟨by rw [HNw.out (by first | rfl | trivial) HSo0.out]; rfl, HQ.out⟩
end
end Go.Proofs.Ytjcibffhlhdjeaa
