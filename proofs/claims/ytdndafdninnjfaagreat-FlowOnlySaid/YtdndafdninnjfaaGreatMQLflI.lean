/-
  The landed flow: Drop.
-/
import Derived.Test.YtdndafdninnjfaaGreatMQLflH
namespace Go.Proofs.YtdndafdninnjfaaGreat
open Go.RowKit

section
variable {w : World} {p : Wp} {D : FD}
/-- all that is done where one is dropped -/
theorem lfdrop_chain {u : World} {q : Wp} (hch : ChL w u p q) (hD : DOk D) (hL : LI D q) {x : Int} (hx : Rg x) (hd : dropFB D x = true) (hDl : D.L.length ≤ 300) :
    u.cell? ⟨q.g, 0, none⟩ = some (.pointer (some ⟨q.gf, 0, none⟩)) ∧ q.g < u.heap.size ∧ Calls Tryz.prog 41 #[.pointer (some ⟨q.gf, 0, none⟩), .int .i64 x] u fun e w1 => ∃ a n cap, e = .returned (.slice a n cap) ∧
      Calls Tryz.prog 26 #[.pointer (some ⟨q.g, 0, none⟩), .slice a n cap] w1 fun e w2 => e = .returned (.tuple #[]) ∧ w2.cell? ⟨q.g, 0, none⟩ = some (.pointer (some ⟨q.gf, 0, none⟩)) ∧ q.g < w2.heap.size ∧
        Calls Tryz.prog 42 #[.pointer (some ⟨q.gf, 0, none⟩), .slice (some ⟨w2.heap.size, 0, none⟩) 1 1] (w2.alloc (.cells #[.int .i64 x] 41)) fun e w3 => ∃ z, e = .returned (.int .i64 z) ∧
          ∃ w4 w5 w6 q', w3.cell? ⟨q.g, 1, none⟩ = some (.map (some q.gn)) ∧ q.g < w3.heap.size ∧ (∀ ty, (Builtin.delete_ #[63, 41] ty #[.map (some q.gn), .int .i64 x]).run Tryz.prog w3 = .ok (.tuple #[]) w4) ∧
            w4.cell? ⟨q.g, 2, none⟩ = some (.map (some q.gs)) ∧ q.g < w4.heap.size ∧ (∀ ty, (Builtin.delete_ #[64, 41] ty #[.map (some q.gs), .int .i64 x]).run Tryz.prog w4 = .ok (.tuple #[]) w5) ∧
            w5.cell? ⟨q.g, 3, none⟩ = some (.map (some q.gm)) ∧ q.g < w5.heap.size ∧ (∀ ty, (Builtin.delete_ #[65, 41] ty #[.map (some q.gm), .int .i64 x]).run Tryz.prog w5 = .ok (.tuple #[]) w6) ∧
            q'.g = q.g ∧ ChL w w6 p q' ∧ LI (dropFD D x) q' := by
  have h := hch.1
  have hTl := hL.len
  refine ⟨h.cells.1, h.cells.2.2.2.2.2, ?_⟩
  obtain ⟨gp, gc, bl, cp, hf1, _⟩ := h.fo
  refine (lchildren_any hf1 (show q.T.length ≤ 1000 by omega) hx).mono ?_
  rintro e w1 ⟨v, rfl, hown, hb1⟩
  obtain ⟨a, cap, rfl, hrow⟩ := hown.row
  have h1 := h.keep hb1
  have haw : Aw (footL q) a (chF q.T x).length := by
    by_cases z : (chF q.T x).length = 0
    · exact Or.inl z
    · refine Or.inr (fun ad e hf => ?_)
      have k1 := h.inb _ hf
      have k2 := (World.ownsRow.lt hown ad.block (by rw [e]; rfl)).1
      omega
  have hrg : Rgs (chF q.T x) := fun z hz => ch_rng hL.wf.1 hf1.rng hz
  refine ⟨a, _, cap, rfl, (lfmark_any h1 (by have := chF_len q.T x; omega) hrow haw hrg (D.L.map Nd.id) (fun y hy => el_id.1 ((hL.mrk y).1 hy).1) (by rw [List.length_map]; omega)).mono ?_⟩
  rintro e w2 ⟨rfl, hc2⟩
  have c2 := hc2.1.cells
  refine ⟨rfl, c2.1, c2.2.2.2.2.2, (hc2.1.free1 hL.wf (show q.T.length ≤ 1000 by omega) hx).mono ?_⟩
  rintro e w3 ⟨z, rfl, Ff, hc3⟩
  obtain ⟨w4, r4, m4, g4⟩ := hc3.1.nod.del hx
  have hc4 := hc3.1.setN m4 g4
  obtain ⟨w5, r5, m5, g5⟩ := hc4.1.sts.del hx
  have hc5 := hc4.1.setS m5 g5
  obtain ⟨w6, r6, m6, g6⟩ := hc5.1.mrk.del hx
  have hc6 := hc5.1.setM m6 g6
  refine ⟨z, rfl, w4, w5, w6, dropP q x Ff, hc3.1.cells.2.1, hc3.1.cells.2.2.2.2.2, r4, hc4.1.cells.2.2.1, hc4.1.cells.2.2.2.2.2, r5, hc5.1.cells.2.2.2.1, hc5.1.cells.2.2.2.2.2, r6, rfl, ?_, hL.drop hD hd Ff⟩
  exact (((((hch.join (ChL.still h hb1)).join hc2).join hc3).join hc4).join hc5).join hc6
set_option maxHeartbeats 8000000 in
set_option maxRecDepth 100000 in
theorem lfdrop_any (hD : DOk D) (hL : LI D p) (h : LW w p) {a : Option Addr} {n cap : Nat} {xs : List Int} (row : Row w a n xs) (ha : Aw (footL p) a n) (hx : Rgs xs) (hn : n ≤ 1000) (hDl : D.L.length ≤ 300) :
    Calls Tryz.prog 21 #[.pointer (some ⟨p.g, 0, none⟩), .slice a n cap] w fun e w' => e = .returned (.int .i64 (dropN D xs : Nat)) ∧ ∃ q, q.g = p.g ∧ ChL w w' p q ∧ LI (dropS D xs) q := by
  have hbig := row.2.1
  have HLen := Lib.hid row.1
  have HRow : Hid (∀ u q, ChL w u p q → Row u a n xs) := Lib.hid (fun u q k => row_frame row ha k.2.1)
  have HSt : Hid (∃ q, q.g = p.g ∧ ChL w w p q ∧ LI (dropS D (xs.take 0)) q) := Lib.hid ⟨p, rfl, ChL.still h (Below.refl _ _), hL⟩
  have HHas : Hid (∀ u q j z, q.g = p.g → ChL w u p q → LI (dropS D (xs.take j)) q → Rg z → Calls Tryz.prog 40 #[.pointer (some ⟨p.g, 0, none⟩), .int .i64 z] u fun e w' => e = .returned (.bool (dropFB (dropS D (xs.take j)) z)) ∧ ChL w w' p q) := Lib.hid (fun u q j z e k hq hz => by
    rw [← e]
    refine (lfhas_any k.1 hz).mono ?_
    rintro e w' ⟨rfl, hb⟩
    refine ⟨?_, k.behind hb⟩
    rw [hq.nodS]
    rfl)
  have HCh : Hid (∀ u q j z, q.g = p.g → ChL w u p q → LI (dropS D (xs.take j)) q → xs[j]? = some z → dropFB (dropS D (xs.take j)) z = true → u.cell? ⟨p.g, 0, none⟩ = some (.pointer (some ⟨q.gf, 0, none⟩)) ∧ p.g < u.heap.size ∧ Calls Tryz.prog 41 #[.pointer (some ⟨q.gf, 0, none⟩), .int .i64 z] u fun e w1 => ∃ a n cap, e = .returned (.slice a n cap) ∧
      Calls Tryz.prog 26 #[.pointer (some ⟨p.g, 0, none⟩), .slice a n cap] w1 fun e w2 => e = .returned (.tuple #[]) ∧ w2.cell? ⟨p.g, 0, none⟩ = some (.pointer (some ⟨q.gf, 0, none⟩)) ∧ p.g < w2.heap.size ∧
        Calls Tryz.prog 42 #[.pointer (some ⟨q.gf, 0, none⟩), .slice (some ⟨w2.heap.size, 0, none⟩) 1 1] (w2.alloc (.cells #[.int .i64 z] 41)) fun e w3 => ∃ y, e = .returned (.int .i64 y) ∧
          ∃ w4 w5 w6, w3.cell? ⟨p.g, 1, none⟩ = some (.map (some q.gn)) ∧ p.g < w3.heap.size ∧ (∀ ty, (Builtin.delete_ #[63, 41] ty #[.map (some q.gn), .int .i64 z]).run Tryz.prog w3 = .ok (.tuple #[]) w4) ∧
            w4.cell? ⟨p.g, 2, none⟩ = some (.map (some q.gs)) ∧ p.g < w4.heap.size ∧ (∀ ty, (Builtin.delete_ #[64, 41] ty #[.map (some q.gs), .int .i64 z]).run Tryz.prog w4 = .ok (.tuple #[]) w5) ∧
            w5.cell? ⟨p.g, 3, none⟩ = some (.map (some q.gm)) ∧ p.g < w5.heap.size ∧ (∀ ty, (Builtin.delete_ #[65, 41] ty #[.map (some q.gm), .int .i64 z]).run Tryz.prog w5 = .ok (.tuple #[]) w6) ∧
            ∃ q', q'.g = p.g ∧ ChL w w6 p q' ∧ LI (dropS D (xs.take (j + 1))) q') := Lib.hid (fun u q j z e k hq hz hd => by
    have hs := (drops_size (xs.take j) D 300 hDl).1
    obtain ⟨c1, c2, c3⟩ := lfdrop_chain k (DOk.drops _ hD) hq (hx z (List.mem_of_getElem? hz)) hd (by omega)
    rw [e] at c1 c2 c3
    refine ⟨c1, c2, c3.mono ?_⟩
    rintro e1 w1 ⟨a, n, cap, rfl, h2⟩
    refine ⟨a, n, cap, rfl, h2.mono ?_⟩
    rintro e2 w2 ⟨rfl, d1, d2, h3⟩
    refine ⟨rfl, d1, d2, h3.mono ?_⟩
    rintro e3 w3 ⟨y, rfl, w4, w5, w6, q', k1, k2, k3, k4, k5, k6, k7, k8, k9, k10, k11, k12⟩
    refine ⟨y, rfl, w4, w5, w6, k1, k2, k3, k4, k5, k6, k7, k8, k9, q', k10, k11, ?_⟩
    rw [dropS_snoc hz]
    exact k12)
  have HNo : Hid (∀ j z, xs[j]? = some z → dropFB (dropS D (xs.take j)) z = false → dropS D (xs.take (j + 1)) = dropS D (xs.take j)) := Lib.hid (fun j z hz hd => by
    rw [dropS_snoc hz]
    unfold dropFD
    rw [if_neg (by rw [hd]; simp)])
  have HCnt : Hid (∀ j z, xs[j]? = some z → dropN D (xs.take (j + 1)) = dropN D (xs.take j) + (if dropFB (dropS D (xs.take j)) z then 1 else 0)) := Lib.hid (fun j z hz => dropN_snoc hz)
  have HCl : Hid (∀ j, dropN D (xs.take j) ≤ 1000) := Lib.hid (fun j => by
    have h1 := dropN_le (xs.take j) D
    have h2 := row.1
    rw [List.length_take] at h1
    omega)
  have HRg := Lib.hid hx
  obtain ⟨g, hge⟩ : ∃ g, g = p.g := ⟨_, rfl⟩
  rw [← hge] at HSt HHas HCh ⊢
  clear h row ha hx hD hL hDl hge
  go_enter Tryz.func21, Tryz.ntmps21
  go_wp2
  go_loopw [5, 7, 12] (fun v5 _ i wr => ∃ (j : Nat) (q : Wp), j ≤ n ∧ i = .int .i64 j ∧ v5 = .int .i64 (dropN D (xs.take j) : Nat) ∧ q.g = g ∧ ChL w wr p q ∧ LI (dropS D (xs.take j)) q) (fun _ _ i _ => n - (ivl i).toNat)
  case atStart =>
    obtain ⟨q, h1, h2, h3⟩ := HSt.out
    exact ⟨0, q, by omega, rfl, rfl, h1, h2, h3⟩
  case round =>
    clear HSt
    obtain ⟨j, q, hj, rfl, rfl, hqg, hch, hli⟩ := hrel
    have hrw := HRow.out wr q hch
    have HC := Lib.hid hch
    have HLI := Lib.hid hli
    have HQ := Lib.hid hqg
    have hcl := HCl.out j
    clear hch hli hqg
    by_cases hlt : j < n
    · obtain ⟨b, off, z, rfl, hz, cz⟩ := row_at hrw hlt
      have hbl := World.block_lt_of_cell? _ _ cz
      have HZ := Lib.hid hz
      have HH := Lib.hid (HHas.out wr q j z HQ.out HC.out HLI.out (HRg.out z (List.mem_of_getElem? hz)))
      have HSn := Lib.hid (HCnt.out j z hz)
      obtain ⟨cn, hcn⟩ : ∃ cn, cn = dropN D (xs.take j) := ⟨_, rfl⟩
      rw [← hcn] at hcl HSn ⊢
      obtain ⟨df, hdf⟩ : ∃ df, df = dropFB (dropS D (xs.take j)) z := ⟨_, rfl⟩
      rw [← hdf] at HH HSn
      have HDf := Lib.hid hdf.symm
      have j0 : (0 : Int) ≤ (j : Int) := by omega
      have j1 : (j : Int) < (n : Int) := by omega
      clear hrw hz hcn hdf HC
      go_wp2_with fail
      refine HH.out.mono ?_
      rintro e w1 ⟨rfl, hc1⟩
      have HC1 := Lib.hid hc1
      clear hc1 HH
      cases df with
      | false =>
        have HE : Hid (LI (dropS D (xs.take (j + 1))) q) := Lib.hid (by rw [HNo.out j z HZ.out HDf.out]; exact HLI.out)
        go_wp2
        go_roundw
        case rel => exact ⟨j + 1, q, by omega, by go_num, by rw [HSn.out]; rfl, HQ.out, HC1.out, HE.out⟩
        case measure => simp [ivl] <;> omega
      | true =>
        obtain ⟨c0, hg, hcc⟩ := HCh.out w1 q j z HQ.out HC1.out HLI.out HZ.out HDf.out
        have HCc := Lib.hid hcc
        obtain ⟨gf, hgf⟩ : ∃ gf, gf = q.gf := ⟨_, rfl⟩
        obtain ⟨gn, hgn⟩ : ∃ gn, gn = q.gn := ⟨_, rfl⟩
        obtain ⟨gs, hgs⟩ : ∃ gs, gs = q.gs := ⟨_, rfl⟩
        obtain ⟨gm, hgm⟩ : ∃ gm, gm = q.gm := ⟨_, rfl⟩
        rw [← hgf] at HCc c0
        rw [← hgn, ← hgs, ← hgm] at HCc
        clear hcc hgf hgn hgs hgm
        go_wp2_with fail
        refine HCc.out.mono ?_
        rintro e w2 ⟨ka, kn, kc, rfl, hm⟩
        have HM := Lib.hid hm
        clear hm HCc c0 hg
        go_wp2_with fail
        refine HM.out.mono ?_
        rintro e w3 ⟨rfl, c0, hg, hf⟩
        have HF := Lib.hid hf
        clear hf HM
        go_wp2_with fail
        refine HF.out.mono ?_
        rintro e w4 ⟨y, rfl, w5, w6, w7, c1, z1, r1, c2, z2, r2, c3, z3, r3, hq⟩
        have HQ2 := Lib.hid hq
        clear hq HF c0 hg
        go_wp2_with (at_builtin; first | refine wpList_del9 rfl (.tmp 38) (.tmp 39) 63 41 rfl _ _ rfl rfl (r1 _) ?_ | refine wpList_del9 rfl (.tmp 43) (.tmp 44) 64 41 rfl _ _ rfl rfl (r2 _) ?_ | refine wpList_del9 rfl (.tmp 48) (.tmp 49) 65 41 rfl _ _ rfl rfl (r3 _) ?_)
        obtain ⟨q', hq1, hq2, hq3⟩ := HQ2.out
        have HE := Lib.hid (And.intro hq1 (And.intro hq2 hq3))
        clear hq1 hq2 hq3 HQ2
        go_roundw
        case rel => exact ⟨j + 1, q', by omega, by go_num, by rw [HSn.out]; go_num, HE.out⟩
        case measure => simp [ivl] <;> omega
    · obtain rfl : j = n := by omega
      have e0 : xs.take j = xs := List.take_of_length_le (by rw [HLen.out]; exact Nat.le_refl _)
      rw [e0] at HLI hcl ⊢
      have HE := Lib.hid (And.intro HQ.out (And.intro HC.out HLI.out))
      have j1 : ¬ (j : Int) < (j : Int) := by omega
      clear e0 hrw HC HLI HQ
      go_wp2
      go_ret
      exact ⟨rfl, q, HE.out⟩
end
end Go.Proofs.YtdndafdninnjfaaGreat
