/-
  3 texts in one file, each with its own heading.
-/
import Derived.Test.YtjcibffhlhdjeaaMU22
import Derived.BigQuiet
/-
  What the law's put of layer 15 answers, for any package that answers as the bundle says.
-/
namespace Go.Proofs.Ytjcibffhlhdjeaa
open Go.RowKit

section
variable {PB : World → Nat → (Nat → Prop) → Ku → Prop}
variable {w0 w : World} {gp gr : Nat} {Fp Fq : Nat → Prop} {K : Ku}
set_option maxHeartbeats 16000000 in
set_option maxRecDepth 100000 in
theorem lputs15_any (hC : KC PB) (h : Duo15 PB RKB w0 w gp gr Fp Fq K K) (hK : KOk K) (x : A15) (hx : ok15 w0 x) (hs : small15 x) (hl : K.R.length + x.rn ≤ 200) (h6 : x.k % 10 < 6) :
    Calls Try.prog 19 #[.pointer (some ⟨gp, 0, none⟩), .pointer (some ⟨gr, 0, none⟩), .agg (c15 x).toArray] w fun e w' => e = .returned (.bool true) ∧ ∃ Fp' Fq', Duo15 PB RKB w0 w' gp gr Fp' Fq' (putsK K x.L) (putsK K x.L) := by
  have KB := Lib.hid (Blk.new w 45 (c15 x).toArray)
  have HD0 := Lib.hid (h.keep hC.kb kb_rkb (alloc_below w (.cells (c15 x).toArray 45)))
  have HCe : Hid (∀ W : World, Blk W w.heap.size 45 (c15 x).toArray → W.cell? ⟨w.heap.size, 0, none⟩ = some (.int .u8 x.k) ∧ W.cell? ⟨w.heap.size, 7, none⟩ = some (.slice x.ra x.rn x.rc)) := Lib.hid (fun W k => ⟨k.cell 0, k.cell 7⟩)
  obtain ⟨XA, hXA⟩ : ∃ XA, XA = c15 x := ⟨_, rfl⟩
  rw [← hXA] at KB HD0 HCe ⊢
  clear hXA
  obtain ⟨k, pa, pn, pc, P, E, m, ra, n, rc, L, ia, iN, ic, I⟩ := x
  obtain ⟨hk0, hk1, -, ⟨hrow', hrg'⟩, -, -⟩ := hx
  have hrow : RcRow w0 ra n L := hrow'
  have hrg : ∀ r ∈ L, Rg r.id := hrg'
  have hn : n ≤ 40 := hs.2.1
  have hKn : K.R.length + n ≤ 200 := hl
  have hrl : L.length = n := hrow.1
  have hk : 0 ≤ k := hk0
  have h6t : k % 10 < 6 := h6
  change Hid (∀ W : World, Blk W w.heap.size 45 XA.toArray → W.cell? ⟨w.heap.size, 0, none⟩ = some (.int .u8 k) ∧ W.cell? ⟨w.heap.size, 7, none⟩ = some (.slice ra n rc)) at HCe
  have HOf : Hid (∀ u, Below w0.heap.size w0 u → Calls Try.prog 32 #[.slice ra n rc] u fun e w' => ∃ v, e = .returned v ∧ OwnX 12 cRc 50 w' u.heap.size v L ∧ Below u.heap.size u w') := Lib.hid (fun u q => gof_any ra n rc L u (hrow.keep q) (by omega))
  have HP : Hid (∀ u, Duo15 PB RKB w0 u gp gr Fp Fq K K → Calls Try.prog 8 #[.pointer (some ⟨gp, 0, none⟩), .slice ra n rc] u fun e w' => e = .returned (.tuple #[]) ∧ ∃ Fp', Duo15 PB RKB w0 w' gp gr Fp' Fq (putsK K L) K ∧ (∀ b, b < u.heap.size → ¬ Fp b → w'.heap[b]? = u.heap[b]? ∧ ¬ Fp' b) ∧ u.heap.size ≤ w'.heap.size) := Lib.hid (fun u d => (hC.put u gp Fp K ra n rc L hK hKn hn d.p (hrow.keep d.low) (awx_old15 hrow d.np) hrg).mono fun e w' q => by
    obtain ⟨Fp', k1, k2, k3⟩ := d.prog kb_rkb q.2
    exact ⟨q.1, Fp', k1, k2, k3⟩)
  have HQ : Hid (∀ (u : World) (j : Nat) (Fp' Fq' : Nat → Prop) r, L[j]? = some r → Duo15 PB RKB w0 u gp gr Fp' Fq' (putsK K L) (putsK K (L.take j)) → Calls Try.prog 33 #[.pointer (some ⟨gr, 0, none⟩), .agg (cRc r).toArray] u fun e w' => e = .returned (.tuple #[]) ∧ ∃ Fq2, Duo15 PB RKB w0 w' gp gr Fp' Fq2 (putsK K L) (putsK K (L.take (j + 1))) ∧ (∀ b, b < u.heap.size → ¬ Fq' b → w'.heap[b]? = u.heap[b]? ∧ ¬ Fq2 b) ∧ u.heap.size ≤ w'.heap.size) := Lib.hid (fun u j Fp' Fq' r hr d => by
    have hKj := KOk.puts (l := L.take j) hK (fun x hx => hrg x (List.mem_of_mem_take hx))
    have hl1 := puts_len (L.take j) K
    have hl2 := hKj.dlen
    rw [List.length_take] at hl1
    refine (rput_any d.q hKj.rise (by omega) (by omega) r).mono fun e w' q => ?_
    obtain ⟨Fq2, k1, k2, k3⟩ := d.ref hC.kb q.2
    exact ⟨q.1, Fq2, by rw [puts_snoc hr]; exact k1, k2, k3⟩)
  have HKp : Hid (∀ u u' Fp' Fq' D1 D2, Duo15 PB RKB w0 u gp gr Fp' Fq' D1 D2 → Below u.heap.size u u' → Duo15 PB RKB w0 u' gp gr Fp' Fq' D1 D2) := Lib.hid (fun u u' Fp' Fq' D1 D2 d q => d.keep hC.kb kb_rkb q)
  have HIp : Hid (∀ u D1 D2, Duo15 PB RKB w0 u gp gr Fp Fq D1 D2 → (∀ b, Fp b → b < u.heap.size) ∧ ∀ b, Fq b → b < u.heap.size) := Lib.hid (fun u D1 D2 d => ⟨hC.kb.inb _ _ _ _ d.p, kb_rkb.inb _ _ _ _ d.q⟩)
  have HNp : Hid (¬ Fp w.heap.size) := Lib.hid (fun c => by have := hC.kb.inb _ _ _ _ h.p _ c; omega)
  have HTk : Hid (L.take n = L) := Lib.hid (List.take_of_length_le (by rw [hrl]; exact Nat.le_refl _))
  have HLn := Lib.hid hrl
  have hb1 := hrow.2.1
  clear h hC hK hs hl hKn hrow hrg hrow' hrg' hrl h6 hk0
  go_enter Try.func19, Try.ntmps19
  go_upto_region 1 with fail
  refine fin (fun W => Duo15 PB RKB w0 W gp gr Fp Fq K K ∧ Blk W w.heap.size 45 XA.toArray) ⟨HD0.out, KB.out⟩ ?_
  clear HD0 KB
  rintro W ⟨hd, kb⟩
  obtain ⟨c0, c7⟩ := HCe.out W kb
  have zb := kb.lt
  have KB := Lib.hid kb
  have HDu := Lib.hid hd
  have HOc := Lib.hid (HOf.out W hd.low)
  have HIn := Lib.hid (HIp.out W K K hd)
  clear hd kb HOf HIp
  go_wp2_with fail
  refine HOc.out.mono ?_
  rintro e w1 ⟨v, rfl, hown, hb⟩
  have HAv : Hid (∀ b, v.ownBlock = some b → W.heap.size ≤ b ∧ b < w1.heap.size) := Lib.hid hown.lt
  obtain ⟨av, cv, rfl, -, -, rv⟩ := hown.row cRc_len
  change Hid (∀ b, (Value.slice av L.length cv).ownBlock = some b → W.heap.size ≤ b ∧ b < w1.heap.size) at HAv
  rw [HLn.out] at rv HAv ⊢
  have HRv := Lib.hid rv
  have KB1 := Lib.hid (KB.out.keep hb)
  obtain ⟨c01, c71⟩ := HCe.out w1 KB1.out
  have z1 := KB1.out.lt
  have HPc := Lib.hid (HP.out w1 (HKp.out _ _ _ _ _ _ HDu.out hb))
  clear c0 c7 zb KB hown hb rv HOc HDu HP
  go_wp2_with fail
  refine HPc.out.mono ?_
  rintro e w2 ⟨rfl, Fp', hd2, hk2, hz2⟩
  have HD2 := Lib.hid hd2
  have HR2 : Hid (RcRow w2 av n L) := Lib.hid (rowx_stay HRv.out (fun ad e hl => (hk2 ad.block hl (fun c => by
    have h1 := HIn.out.1 _ c
    have h2 := (HAv.out ad.block (by rw [e]; rfl)).1
    omega)).1) hz2)
  have HA2 : Hid (∀ ad, av = some ad → ¬ Fq ad.block ∧ ad.block < w2.heap.size) := Lib.hid (fun ad e => by
    have h2 := HAv.out ad.block (by rw [e]; rfl)
    refine ⟨fun c => ?_, by omega⟩
    have h1 := HIn.out.2 _ c
    omega)
  clear hd2 hk2 hz2 c01 c71 z1 KB1 HPc HRv HAv HIn
  go_wp2
  go_loopw [8] (fun i wr => ∃ (j : Nat) (Fq' : Nat → Prop), j ≤ n ∧ i = .int .i64 j ∧ Duo15 PB RKB w0 wr gp gr Fp' Fq' (putsK K L) (putsK K (L.take j)) ∧ RcRow wr av n L ∧ ∀ ad, av = some ad → ¬ Fq' ad.block ∧ ad.block < wr.heap.size) (fun i _ => n - (ivl i).toNat)
  case atStart => exact ⟨0, Fq, by omega, rfl, HD2.out, HR2.out, HA2.out⟩
  case round =>
    clear HD2 HR2 HA2
    obtain ⟨j, F1, hj, rfl, hd, hr, ha⟩ := hrel
    have HDu := Lib.hid hd
    have HA := Lib.hid ha
    have j0 : (0 : Int) ≤ (j : Int) := by omega
    clear hd ha
    by_cases hlt : j < n
    · have j1 : (j : Int) < (n : Int) := by omega
      have HRr := Lib.hid hr
      obtain ⟨b, off, r, rfl, hbl, hx, hrr⟩ := hr.at_ hlt
      have HQc := Lib.hid (HQ.out wr j Fp' F1 r hx HDu.out)
      have HRs := Lib.hid (rf_size r)
      have HRg : Hid (wr.rangeAt b (off + j * 12) (cRc r)) := Lib.hid hrr
      obtain ⟨XR, hXR⟩ : ∃ XR, XR = cRc r := ⟨_, rfl⟩
      rw [← hXR] at HQc HRs HRg
      clear hx hrr hXR
      go_wp2_with (first
        | refine wpList_load_mid rfl 50 (.tmp 32) rfl b (off + j * 12) rfl XR _ HRg.out Try.underlying50 rfl HRs.out ?_
        | fail)
      refine HQc.out.mono ?_
      rintro e w6 ⟨rfl, F2, hd6, hk6, hz6⟩
      have H6 : Hid (Duo15 PB RKB w0 w6 gp gr Fp' F2 (putsK K L) (putsK K (L.take (j + 1))) ∧ RcRow w6 (some ⟨b, off, none⟩) n L ∧ ∀ ad, (some ⟨b, off, none⟩ : Option Addr) = some ad → ¬ F2 ad.block ∧ ad.block < w6.heap.size) := Lib.hid ⟨hd6, rowx_stay HRr.out (fun ad e hl => (hk6 ad.block hl (HA.out ad e).1).1) hz6, fun ad e => ⟨(hk6 ad.block (HA.out ad e).2 (HA.out ad e).1).2, Nat.lt_of_lt_of_le (HA.out ad e).2 hz6⟩⟩
      clear hd6 hk6 hz6 HQc HRg HRr HA HDu hbl
      go_wp2
      go_roundw
      case rel => exact ⟨j + 1, F2, by omega, by go_num, H6.out.1, H6.out.2.1, H6.out.2.2⟩
      case measure => simp [ivl] <;> omega
    · obtain rfl : j = n := by omega
      rw [HTk.out] at HDu
      have j1 : ¬ (j : Int) < (j : Int) := by omega
      clear hr
      go_wp2
      go_ret
      exact ⟨rfl, Fp', F1, HDu.out⟩
set_option maxHeartbeats 16000000 in
set_option maxRecDepth 100000 in
theorem ldrops15_any (hC : KC PB) (h : Duo15 PB RKB w0 w gp gr Fp Fq K K) (hK : KOk K) (x : A15) (hx : ok15 w0 x) (hs : small15 x) (hl : K.R.length ≤ 200) (h6 : ¬ x.k % 10 < 6) :
    Calls Try.prog 19 #[.pointer (some ⟨gp, 0, none⟩), .pointer (some ⟨gr, 0, none⟩), .agg (c15 x).toArray] w fun e w' => e = .returned (.bool true) ∧ ∃ Fp' Fq', Duo15 PB RKB w0 w' gp gr Fp' Fq' (dropsK K x.I) (dropsK K x.I) := by
  have KB := Lib.hid (Blk.new w 45 (c15 x).toArray)
  have HD0 := Lib.hid (h.keep hC.kb kb_rkb (alloc_below w (.cells (c15 x).toArray 45)))
  have HCe : Hid (∀ W : World, Blk W w.heap.size 45 (c15 x).toArray → W.cell? ⟨w.heap.size, 0, none⟩ = some (.int .u8 x.k) ∧ W.cell? ⟨w.heap.size, 7, none⟩ = some (.slice x.ra x.rn x.rc) ∧ W.cell? ⟨w.heap.size, 8, none⟩ = some (.slice x.ia x.iN x.ic)) := Lib.hid (fun W k => ⟨k.cell 0, k.cell 7, k.cell 8⟩)
  obtain ⟨XA, hXA⟩ : ∃ XA, XA = c15 x := ⟨_, rfl⟩
  rw [← hXA] at KB HD0 HCe ⊢
  clear hXA
  obtain ⟨k, pa, pn, pc, P, E, m, ra, n, rc, L, ia, iN, ic, I⟩ := x
  obtain ⟨hk0, hk1, -, ⟨hrow', -⟩, hrow2', hrg2'⟩ := hx
  have hrow : RcRow w0 ra n L := hrow'
  have hrow2 : Row w0 ia iN I := hrow2'
  have hrg2 : Rgs I := hrg2'
  have hn : n ≤ 40 := hs.2.1
  have hin : iN ≤ 40 := hs.2.2
  have hrl2 : I.length = iN := hrow2.1
  have hk : 0 ≤ k := hk0
  have h6t : ¬ k % 10 < 6 := h6
  change Hid (∀ W : World, Blk W w.heap.size 45 XA.toArray → W.cell? ⟨w.heap.size, 0, none⟩ = some (.int .u8 k) ∧ W.cell? ⟨w.heap.size, 7, none⟩ = some (.slice ra n rc) ∧ W.cell? ⟨w.heap.size, 8, none⟩ = some (.slice ia iN ic)) at HCe
  have HOf : Hid (∀ u, Below w0.heap.size w0 u → Calls Try.prog 32 #[.slice ra n rc] u fun e w' => ∃ v, e = .returned v ∧ OwnX 12 cRc 50 w' u.heap.size v L ∧ Below u.heap.size u w') := Lib.hid (fun u q => gof_any ra n rc L u (hrow.keep q) (by omega))
  have HRw : Hid (∀ u, Below w0.heap.size w0 u → Row u ia iN I) := Lib.hid (fun u q => row_keep hrow2 q)
  have HRf : Hid (∀ (u : World) (j : Nat) (Fq' : Nat → Prop) z, I[j]? = some z → Duo15 PB RKB w0 u gp gr Fp Fq' K (dropsK K (I.take j)) → Calls Try.prog 34 #[.pointer (some ⟨gr, 0, none⟩), .int .i64 z] u fun e w' => e = .returned (.bool (decide ((remL (dropsK K (I.take j)).R [z]).length < (dropsK K (I.take j)).R.length))) ∧ ∃ Fq2, Duo15 PB RKB w0 w' gp gr Fp Fq2 K (dropsK K (I.take (j + 1))) ∧ (∀ b, b < u.heap.size → ¬ Fq' b → w'.heap[b]? = u.heap[b]? ∧ ¬ Fq2 b)) := Lib.hid (fun u j Fq' z hz d => by
    have hKj := KOk.drops (l := I.take j) hK
    have hl1 := drops_len (I.take j) K
    have hl2 := hKj.dlen
    refine (rdrop_any d.q (by omega) (by omega) z).mono fun e w' q => ?_
    obtain ⟨Fq2, k1, k2, _⟩ := d.ref hC.kb q.2
    exact ⟨q.1, Fq2, by rw [drops_snoc hz]; exact k1, k2⟩)
  have HPd : Hid (∀ (u : World) (Fq' : Nat → Prop), Duo15 PB RKB w0 u gp gr Fp Fq' K (dropsK K I) → Calls Try.prog 14 #[.pointer (some ⟨gp, 0, none⟩), .slice ia iN ic] u fun e w' => e = .returned (.int .i64 (dropC K I : Nat)) ∧ ∃ Fp', Duo15 PB RKB w0 w' gp gr Fp' Fq' (dropsK K I) (dropsK K I)) := Lib.hid (fun u Fq' d => (hC.drop u gp Fp K ia iN ic I hK hl hin d.p (row_keep hrow2 d.low) (aw_old15 hrow2 d.np) hrg2).mono fun e w' q => by
    obtain ⟨Fp', k1, _⟩ := d.prog kb_rkb q.2
    exact ⟨q.1, Fp', k1⟩)
  have HCnt : Hid (∀ j z, I[j]? = some z → dropC K (I.take (j + 1)) = dropC K (I.take j) + (if decide ((remL (dropsK K (I.take j)).R [z]).length < (dropsK K (I.take j)).R.length) then 1 else 0)) := Lib.hid (fun j z hz => by
    rw [dropC_snoc hK hz]
    simp only [decide_eq_true_eq])
  have HCl : Hid (∀ l, dropC K l ≤ 200) := Lib.hid (fun l => Nat.le_trans (Nat.sub_le _ _) hl)
  have HKp : Hid (∀ u u' Fp' Fq' D1 D2, Duo15 PB RKB w0 u gp gr Fp' Fq' D1 D2 → Below u.heap.size u u' → Duo15 PB RKB w0 u' gp gr Fp' Fq' D1 D2) := Lib.hid (fun u u' Fp' Fq' D1 D2 d q => d.keep hC.kb kb_rkb q)
  have hnq : Hid (¬ Fq w.heap.size) := Lib.hid (fun c => by have := kb_rkb.inb _ _ _ _ h.q _ c; omega)
  have HTk : Hid (I.take iN = I) := Lib.hid (List.take_of_length_le (by rw [hrl2]; exact Nat.le_refl _))
  have hz0 : dropC K (I.take 0) = 0 := by
    rw [List.take_zero]
    unfold dropC
    rw [rem_nil]
    omega
  have HZ0 := Lib.hid hz0
  have hb1 := hrow.2.1
  have hb2 := hrow2.2.1
  clear h hC hK hs hl hrow hrow' hrow2 hrow2' hrg2 hrg2' hrl2 h6 hk0 hz0
  go_enter Try.func19, Try.ntmps19
  go_upto_region 1 with fail
  refine fin (fun W => Duo15 PB RKB w0 W gp gr Fp Fq K K ∧ Blk W w.heap.size 45 XA.toArray) ⟨HD0.out, KB.out⟩ ?_
  clear HD0 KB
  obtain ⟨g5, hg5⟩ : ∃ g5, g5 = w.heap.size := ⟨_, rfl⟩
  rw [← hg5] at hnq HCe ⊢
  clear hg5
  rintro W ⟨hd, kb⟩
  obtain ⟨c0, c7, -⟩ := HCe.out W kb
  have zb := kb.lt
  have KB := Lib.hid kb
  have HDu := Lib.hid hd
  have HOc := Lib.hid (HOf.out W hd.low)
  clear hd kb HOf
  go_wp2_with fail
  refine HOc.out.mono ?_
  rintro e w1 ⟨v, rfl, -, hb⟩
  have HD1 := Lib.hid (HKp.out _ _ _ _ _ _ HDu.out hb)
  have KB1 := Lib.hid (KB.out.keep hb)
  obtain ⟨c01, -, -⟩ := HCe.out w1 KB1.out
  have z1 := KB1.out.lt
  clear c0 c7 zb KB hb HOc HDu
  go_wp2
  go_loopw [9, 10, 11] (fun v9 i _ wr => ∃ (j : Nat) (Fq' : Nat → Prop), j ≤ iN ∧ i = .int .i64 j ∧ v9 = .int .i64 (dropC K (I.take j) : Nat) ∧ Duo15 PB RKB w0 wr gp gr Fp Fq' K (dropsK K (I.take j)) ∧ ¬ Fq' g5 ∧ Blk wr g5 45 XA.toArray) (fun _ i _ _ => iN - (ivl i).toNat)
  case atStart => exact ⟨0, Fq, by omega, rfl, by rw [HZ0.out]; rfl, HD1.out, hnq.out, KB1.out⟩
  case round =>
    clear HD1 KB1 c01 z1
    obtain ⟨j, F1, hj, rfl, rfl, hd, hnf, kb⟩ := hrel
    have HDu := Lib.hid hd
    have HNf := Lib.hid hnf
    have KB := Lib.hid kb
    have hrw := HRw.out wr hd.low
    have c2 : wr.cell? ⟨g5, 8, none⟩ = some (.slice ia iN ic) := (HCe.out wr kb).2.2
    have zb := kb.lt
    have hcl := HCl.out (I.take j)
    clear hd hnf kb
    by_cases hlt : j < iN
    · obtain ⟨bb, off, z, rfl, hz, cz⟩ := row_at hrw hlt
      have hbl := World.block_lt_of_cell? _ _ cz
      have HF := Lib.hid (HRf.out wr j F1 z hz HDu.out)
      have HSn := Lib.hid (HCnt.out j z hz)
      obtain ⟨cn, hcn⟩ : ∃ cn, cn = dropC K (I.take j) := ⟨_, rfl⟩
      rw [← hcn] at hcl HSn ⊢
      obtain ⟨df, hdf⟩ : ∃ df, df = decide ((remL (dropsK K (I.take j)).R [z]).length < (dropsK K (I.take j)).R.length) := ⟨_, rfl⟩
      rw [← hdf] at HF HSn
      have j0 : (0 : Int) ≤ (j : Int) := by omega
      have j1 : (j : Int) < (iN : Int) := by omega
      clear hrw hz hcn hdf HDu
      go_wp2_with fail
      refine HF.out.mono ?_
      rintro e w3 ⟨rfl, F2, hd2, hk2⟩
      obtain ⟨e1, e2⟩ := hk2 g5 zb HNf.out
      have HE : Hid (Duo15 PB RKB w0 w3 gp gr Fp F2 K (dropsK K (I.take (j + 1))) ∧ ¬ F2 g5 ∧ Blk w3 g5 45 XA.toArray) := Lib.hid ⟨hd2, e2, KB.out.same e1⟩
      clear hd2 hk2 e1 e2 HF
      cases df with
      | false =>
        go_wp2
        go_roundw
        case rel => exact ⟨j + 1, F2, by omega, by go_num, by rw [HSn.out]; rfl, HE.out⟩
        case measure => simp [ivl] <;> omega
      | true =>
        go_wp2
        go_roundw
        case rel => exact ⟨j + 1, F2, by omega, by go_num, by rw [HSn.out]; go_num, HE.out⟩
        case measure => simp [ivl] <;> omega
    · obtain rfl : j = iN := by omega
      rw [HTk.out] at HDu hcl ⊢
      have HPc := Lib.hid (HPd.out wr F1 HDu.out)
      obtain ⟨cn, hcn⟩ : ∃ cn, cn = dropC K I := ⟨_, rfl⟩
      rw [← hcn] at hcl HPc ⊢
      have j1 : ¬ (j : Int) < (j : Int) := by omega
      clear hrw hcn HDu
      go_wp2_with fail
      refine HPc.out.mono ?_
      rintro e w3 ⟨rfl, Fp', hd1⟩
      have HE := Lib.hid hd1
      clear hd1 HPc
      go_wp2
      go_ret
      exact ⟨by simp, Fp', F1, HE.out⟩
end
def vw15 (x : A15) : Vw := ⟨x.P, x.E, x.m⟩
def doK (K : Ku) (x : A15) : Ku := if x.k % 10 < 2 then lookS K (vw15 x) else if x.k % 10 = 2 then closeS K else if x.k % 10 < 7 then (if x.k % 10 < 6 then putsK K x.L else dropsK K x.I) else runS15 K
theorem KOk.doK {K : Ku} (h : KOk K) (x : A15) (hr : ∀ r ∈ x.L, Rg r.id) : KOk (doK K x) := by
  unfold Proofs.Ytjcibffhlhdjeaa.doK
  split
  · exact h.look _
  · split
    · exact h.close
    · split
      · split
        · exact h.puts hr
        · exact h.drops
      · exact h.run
theorem VOk.doK {K : Ku} (h : VOk K) (x : A15) : VOk (doK K x) := by
  unfold Proofs.Ytjcibffhlhdjeaa.doK
  split
  · exact h.look _
  · split
    · exact VOk.close K
    · split
      · split
        · exact h.puts _
        · exact h.drops _
      · exact h.run
theorem doK_len (K : Ku) (x : A15) : (doK K x).R.length ≤ K.R.length + x.L.length := by
  unfold doK
  split
  · unfold lookS
    split
    · split
      · exact Nat.le_add_right _ _
      · exact Nat.le_add_right _ _
    · exact Nat.le_add_right _ _
  · split
    · exact Nat.le_add_right _ _
    · split
      · split
        · exact puts_len _ _
        · exact Nat.le_trans (drops_len _ _) (Nat.le_add_right _ _)
      · unfold runS15
        split
        · exact Nat.le_add_right _ _
        · exact Nat.le_add_right _ _
theorem doK_n {K : Ku} (h : KOk K) (x : A15) : K.n ≤ (doK K x).n ∧ (doK K x).n ≤ K.n + K.R.length := by
  have hd := h.dlen
  unfold doK
  split
  · unfold lookS
    split
    · split
      · exact ⟨Int.le_refl _, by omega⟩
      · exact ⟨Int.le_refl _, by show K.n ≤ K.n + _; omega⟩
    · exact ⟨Int.le_refl _, by omega⟩
  · split
    · exact ⟨Int.le_refl _, by show K.n ≤ K.n + _; omega⟩
    · split
      · split
        · rw [puts_n]; omega
        · rw [drops_n]; omega
      · unfold runS15
        split
        · show K.n ≤ K.n + _ ∧ K.n + _ ≤ _
          omega
        · show K.n ≤ K.n + _ ∧ K.n + _ ≤ _
          omega
theorem c15_view {W : World} {g : Nat} {t : TypeId} {x : A15} (k : Blk W g t (c15 x).toArray) : W.rangeAt g 1 (cVw (.slice x.pa x.pn x.pc) x.E x.m) := by
  intro j v hv
  have hj : j < (cVw (.slice x.pa x.pn x.pc) x.E x.m).length := (List.getElem?_eq_some_iff.1 hv).1
  have := blk_whole k (1 + j) v (by
    rw [Nat.add_comm]
    show ((cVw (.slice x.pa x.pn x.pc) x.E x.m) ++ _)[j]? = some v
    rw [List.getElem?_append_left hj]
    exact hv)
  rwa [Nat.zero_add] at this
section
variable {PB : World → Nat → (Nat → Prop) → Ku → Prop}
variable {w0 w : World} {gp gr : Nat} {Fp Fq : Nat → Prop} {K : Ku}
set_option maxHeartbeats 16000000 in
set_option maxRecDepth 100000 in
theorem lstep15_any (hC : KC PB) (h : Duo15 PB RKB w0 w gp gr Fp Fq K K) (hK : KOk K) (hV : VOk K) (x : A15) (hx : ok15 w0 x) (hs : small15 x) (hl : K.R.length + x.rn ≤ 200) (hn0 : 0 ≤ K.n) (hn1 : K.n ≤ 1000000) :
    Calls Try.prog 7 #[.pointer (some ⟨gp, 0, none⟩), .pointer (some ⟨gr, 0, none⟩), .agg (c15 x).toArray] w fun e w' => (∃ v, e = .returned v) ∧ ∃ Fp' Fq', Duo15 PB RKB w0 w' gp gr Fp' Fq' (doK K x) (doK K x) := by
  have KB := Lib.hid (Blk.new w 45 (c15 x).toArray)
  have HD0 := Lib.hid (h.keep hC.kb kb_rkb (alloc_below w (.cells (c15 x).toArray 45)))
  have HCe : Hid (∀ W : World, Blk W w.heap.size 45 (c15 x).toArray → W.cell? ⟨w.heap.size, 0, none⟩ = some (.int .u8 x.k) ∧ W.rangeAt w.heap.size 1 (cVw (.slice x.pa x.pn x.pc) x.E x.m)) := Lib.hid (fun W k => ⟨k.cell 0, c15_view k⟩)
  have HVs := Lib.hid (vw_size (.slice x.pa x.pn x.pc) x.E x.m)
  have HAs : Hid ((Try.prog.info? 45).map (·.size) = some (c15 x).length) := Lib.hid (by rw [c15_len]; kernel_rfl)
  have HNp : Hid (¬ Fp w.heap.size ∧ ¬ Fq w.heap.size) := Lib.hid ⟨fun c => by have := hC.kb.inb _ _ _ _ h.p _ c; omega, fun c => by have := kb_rkb.inb _ _ _ _ h.q _ c; omega⟩
  have hk : 0 ≤ x.k := hx.1
  have HKp : Hid (∀ u u' Fp' Fq' D1 D2, Duo15 PB RKB w0 u gp gr Fp' Fq' D1 D2 → Below u.heap.size u u' → Duo15 PB RKB w0 u' gp gr Fp' Fq' D1 D2) := Lib.hid (fun u u' Fp' Fq' D1 D2 d q => d.keep hC.kb kb_rkb q)
  by_cases h2 : x.k % 10 < 2
  · have HDo : Hid (doK K x = lookS K (vw15 x)) := Lib.hid (by unfold doK; rw [if_pos h2])
    have HP : Hid (∀ u, Duo15 PB RKB w0 u gp gr Fp Fq K K → Calls Try.prog 9 #[.pointer (some ⟨gp, 0, none⟩), .agg (cVw (.slice x.pa x.pn x.pc) x.E x.m).toArray] u fun e w' => e = .returned (.tuple #[.bool (lookA K (vw15 x)).1, .int .i64 (lookA K (vw15 x)).2]) ∧ ∃ Fp', Duo15 PB RKB w0 w' gp gr Fp' Fq (lookS K (vw15 x)) K ∧ (∀ b, b < u.heap.size → ¬ Fp b → w'.heap[b]? = u.heap[b]? ∧ ¬ Fp' b)) := Lib.hid (fun u d => (hC.look u gp Fp K x.pa x.pn x.pc x.P x.E x.m hK hV (by omega) d.p (hx.2.2.1.keep d.low) (awx_old15 hx.2.2.1 d.np) (by have := hs.1; omega)).mono fun e w' q => by
      obtain ⟨Fp', k1, k2, _⟩ := d.prog kb_rkb q.2
      exact ⟨q.1, Fp', k1, k2⟩)
    have HQ : Hid (∀ u Fp', Duo15 PB RKB w0 u gp gr Fp' Fq (lookS K (vw15 x)) K → Calls Try.prog 16 #[.pointer (some ⟨gr, 0, none⟩), .agg (cVw (.slice x.pa x.pn x.pc) x.E x.m).toArray] u fun e w' => e = .returned (.tuple #[.bool (lookA K (vw15 x)).1, .int .i64 (lookA K (vw15 x)).2]) ∧ ∃ Fq', Duo15 PB RKB w0 w' gp gr Fp' Fq' (lookS K (vw15 x)) (lookS K (vw15 x))) := Lib.hid (fun u Fp' d => (rlook_any d.q (by omega) x.pa x.pn x.pc x.P x.E x.m (hx.2.2.1.keep d.low) (by have := hs.1; omega)).mono fun e w' q => by
      obtain ⟨Fq', k1, _⟩ := d.ref hC.kb q.2
      exact ⟨q.1, Fq', k1⟩)
    obtain ⟨A, hA⟩ : ∃ A, A = lookA K (vw15 x) := ⟨_, rfl⟩
    obtain ⟨b1, e1⟩ := A
    rw [← hA] at HP HQ
    change Hid (∀ u, Duo15 PB RKB w0 u gp gr Fp Fq K K → Calls Try.prog 9 #[.pointer (some ⟨gp, 0, none⟩), .agg (cVw (.slice x.pa x.pn x.pc) x.E x.m).toArray] u fun e w' => e = .returned (.tuple #[.bool b1, .int .i64 e1]) ∧ ∃ Fp', Duo15 PB RKB w0 w' gp gr Fp' Fq (lookS K (vw15 x)) K ∧ (∀ b, b < u.heap.size → ¬ Fp b → w'.heap[b]? = u.heap[b]? ∧ ¬ Fp' b)) at HP
    change Hid (∀ u Fp', Duo15 PB RKB w0 u gp gr Fp' Fq (lookS K (vw15 x)) K → Calls Try.prog 16 #[.pointer (some ⟨gr, 0, none⟩), .agg (cVw (.slice x.pa x.pn x.pc) x.E x.m).toArray] u fun e w' => e = .returned (.tuple #[.bool b1, .int .i64 e1]) ∧ ∃ Fq', Duo15 PB RKB w0 w' gp gr Fp' Fq' (lookS K (vw15 x)) (lookS K (vw15 x))) at HQ
    obtain ⟨Kn, hKn⟩ : ∃ Kn, Kn = lookS K (vw15 x) := ⟨_, rfl⟩
    rw [← hKn] at HP HQ HDo
    obtain ⟨XV, hXV⟩ : ∃ XV, XV = cVw (.slice x.pa x.pn x.pc) x.E x.m := ⟨_, rfl⟩
    rw [← hXV] at HP HQ HCe HVs
    obtain ⟨XA, hXA⟩ : ∃ XA, XA = c15 x := ⟨_, rfl⟩
    rw [← hXA] at KB HD0 HCe ⊢
    rw [HDo.out]
    obtain ⟨k, hkk⟩ : ∃ k, k = x.k := ⟨_, rfl⟩
    rw [← hkk] at HCe h2 hk
    clear h hC hK hV hx hs hl hn0 hn1 hA hKn hXV hXA hkk HDo HAs
    go_enter Try.func7, Try.ntmps7
    go_upto_region 1 with fail
    refine fin (fun W => Duo15 PB RKB w0 W gp gr Fp Fq K K ∧ Blk W w.heap.size 45 XA.toArray) ⟨HD0.out, KB.out⟩ ?_
    clear HD0 KB
    rintro W ⟨hd, kb⟩
    obtain ⟨c0, hrv⟩ := HCe.out W kb
    have HRv := Lib.hid hrv
    have zb := kb.lt
    have KB := Lib.hid kb
    have HPc := Lib.hid (HP.out W hd)
    clear hd kb HP hrv
    go_wp2_with (first
      | refine wpList_load_mid rfl 42 (.tmp 22) rfl w.heap.size 1 rfl XV _ HRv.out Try.underlying42 rfl HVs.out ?_
      | fail)
    refine HPc.out.mono ?_
    rintro e w1 ⟨rfl, Fp', hd1, hk1⟩
    have KB1 := Lib.hid (KB.out.same (w' := w1) (hk1 _ zb HNp.out.1).1)
    obtain ⟨-, hrv⟩ := HCe.out w1 KB1.out
    have HRv1 := Lib.hid hrv
    have z1 := KB1.out.lt
    have HQc := Lib.hid (HQ.out w1 Fp' hd1)
    clear c0 zb KB hk1 hd1 HPc HRv HQ hrv
    go_wp2_with (first
      | refine wpList_load_mid rfl 42 (.tmp 29) rfl w.heap.size 1 rfl XV _ HRv1.out Try.underlying42 rfl HVs.out ?_
      | fail)
    refine HQc.out.mono ?_
    rintro e w2 ⟨rfl, Fq', hd2⟩
    have HE := Lib.hid hd2
    clear hd2 HQc
    go_wp2
    go_ret
    exact ⟨⟨_, rfl⟩, Fp', Fq', HE.out⟩
  · by_cases h3 : x.k % 10 = 2
    · have HDo : Hid (doK K x = closeS K) := Lib.hid (by unfold doK; rw [if_neg h2, if_pos h3])
      have HP : Hid (∀ u, Duo15 PB RKB w0 u gp gr Fp Fq K K → Calls Try.prog 17 #[.pointer (some ⟨gp, 0, none⟩)] u fun e w' => e = .returned (.tuple #[]) ∧ ∃ Fp', Duo15 PB RKB w0 w' gp gr Fp' Fq (closeS K) K) := Lib.hid (fun u d => (hC.close u gp Fp K hK hV (by omega) d.p).mono fun e w' q => by
        obtain ⟨Fp', k1, k2, _⟩ := d.prog kb_rkb q.2
        exact ⟨q.1, Fp', k1⟩)
      have HQ : Hid (∀ u Fp', Duo15 PB RKB w0 u gp gr Fp' Fq (closeS K) K → Calls Try.prog 18 #[.pointer (some ⟨gr, 0, none⟩)] u fun e w' => e = .returned (.tuple #[]) ∧ ∃ Fq', Duo15 PB RKB w0 w' gp gr Fp' Fq' (closeS K) (closeS K)) := Lib.hid (fun u Fp' d => (rclose_any d.q (by omega)).mono fun e w' q => by
        obtain ⟨Fq', k1, _⟩ := d.ref hC.kb q.2
        exact ⟨q.1, Fq', k1⟩)
      obtain ⟨XA, hXA⟩ : ∃ XA, XA = c15 x := ⟨_, rfl⟩
      rw [← hXA] at KB HD0 HCe ⊢
      rw [HDo.out]
      obtain ⟨k, hkk⟩ : ∃ k, k = x.k := ⟨_, rfl⟩
      rw [← hkk] at HCe h2 h3 hk
      clear h hC hK hV hx hs hl hn0 hn1 hXA hkk HDo HAs HVs
      go_enter Try.func7, Try.ntmps7
      go_upto_region 1 with fail
      refine fin (fun W => Duo15 PB RKB w0 W gp gr Fp Fq K K ∧ Blk W w.heap.size 45 XA.toArray) ⟨HD0.out, KB.out⟩ ?_
      clear HD0 KB
      rintro W ⟨hd, kb⟩
      obtain ⟨c0, -⟩ := HCe.out W kb
      have zb := kb.lt
      have HPc := Lib.hid (HP.out W hd)
      clear hd kb HP
      go_wp2_with fail
      refine HPc.out.mono ?_
      rintro e w1 ⟨rfl, Fp', hd1⟩
      have HQc := Lib.hid (HQ.out w1 Fp' hd1)
      clear c0 zb hd1 HPc HQ
      go_wp2_with fail
      refine HQc.out.mono ?_
      rintro e w2 ⟨rfl, Fq', hd2⟩
      have HE := Lib.hid hd2
      clear hd2 HQc
      go_wp2
      go_ret
      exact ⟨⟨_, rfl⟩, Fp', Fq', HE.out⟩
    · by_cases h7 : x.k % 10 < 7
      · have HPut : Hid (∀ u, Duo15 PB RKB w0 u gp gr Fp Fq K K → Calls Try.prog 19 #[.pointer (some ⟨gp, 0, none⟩), .pointer (some ⟨gr, 0, none⟩), .agg (c15 x).toArray] u fun e w' => e = .returned (.bool true) ∧ ∃ Fp' Fq', Duo15 PB RKB w0 w' gp gr Fp' Fq' (doK K x) (doK K x)) := Lib.hid (fun u d => by
          by_cases h6 : x.k % 10 < 6
          · have e : doK K x = putsK K x.L := by unfold doK; rw [if_neg h2, if_neg h3, if_pos h7, if_pos h6]
            rw [e]
            exact lputs15_any hC d hK x hx hs hl h6
          · have e : doK K x = dropsK K x.I := by unfold doK; rw [if_neg h2, if_neg h3, if_pos h7, if_neg h6]
            rw [e]
            exact ldrops15_any hC d hK x hx hs (by omega) h6)
        obtain ⟨XA, hXA⟩ : ∃ XA, XA = c15 x := ⟨_, rfl⟩
        rw [← hXA] at KB HD0 HCe HAs HPut ⊢
        obtain ⟨Kn, hKn⟩ : ∃ Kn, Kn = doK K x := ⟨_, rfl⟩
        rw [← hKn] at HPut ⊢
        obtain ⟨k, hkk⟩ : ∃ k, k = x.k := ⟨_, rfl⟩
        rw [← hkk] at HCe h2 h3 h7 hk
        clear h hC hK hV hx hs hl hn0 hn1 hXA hKn hkk HVs
        go_enter Try.func7, Try.ntmps7
        go_upto_region 1 with fail
        refine fin (fun W => Duo15 PB RKB w0 W gp gr Fp Fq K K ∧ Blk W w.heap.size 45 XA.toArray) ⟨HD0.out, KB.out⟩ ?_
        clear HD0 KB
        rintro W ⟨hd, kb⟩
        obtain ⟨c0, -⟩ := HCe.out W kb
        have HRa : Hid (W.rangeAt w.heap.size 0 XA) := Lib.hid (blk_whole kb)
        have zb := kb.lt
        have HPc := Lib.hid (HPut.out W hd)
        clear hd kb HPut
        go_wp2_with (first
          | refine wpList_load_mid rfl 45 (.tmp 5) rfl w.heap.size 0 rfl XA _ HRa.out Try.underlying45 rfl HAs.out ?_
          | fail)
        refine HPc.out.mono ?_
        rintro e w1 ⟨rfl, Fp', Fq', hd1⟩
        have HE := Lib.hid hd1
        clear hd1 HPc
        go_wp2
        go_ret
        exact ⟨⟨_, rfl⟩, Fp', Fq', HE.out⟩
      · have HDo : Hid (doK K x = runS15 K) := Lib.hid (by unfold doK; rw [if_neg h2, if_neg h3, if_neg h7])
        have hd2 := hK.dlen
        have HP : Hid (∀ u, Duo15 PB RKB w0 u gp gr Fp Fq K K → Calls Try.prog 10 #[.pointer (some ⟨gp, 0, none⟩)] u fun e w' => e = .returned (.tuple #[.int .i64 K.D.length, .int .i64 (runE15 K)]) ∧ ∃ Fp', Duo15 PB RKB w0 w' gp gr Fp' Fq (runS15 K) K) := Lib.hid (fun u d => (hC.run u gp Fp K hK hV (by omega) hn0 hn1 d.p).mono fun e w' q => by
          obtain ⟨Fp', k1, k2, _⟩ := d.prog kb_rkb q.2
          exact ⟨q.1, Fp', k1⟩)
        have HQ : Hid (∀ u Fp', Duo15 PB RKB w0 u gp gr Fp' Fq (runS15 K) K → Calls Try.prog 20 #[.pointer (some ⟨gr, 0, none⟩)] u fun e w' => e = .returned (.tuple #[.int .i64 K.D.length, .int .i64 (runE15 K)]) ∧ ∃ Fq', Duo15 PB RKB w0 w' gp gr Fp' Fq' (runS15 K) (runS15 K)) := Lib.hid (fun u Fp' d => (rrun_any d.q (by omega)).mono fun e w' q => by
          obtain ⟨Fq', k1, _⟩ := d.ref hC.kb q.2
          exact ⟨q.1, Fq', k1⟩)
        obtain ⟨E1, hE1⟩ : ∃ E1, E1 = runE15 K := ⟨_, rfl⟩
        obtain ⟨N1, hN1⟩ : ∃ N1, N1 = K.D.length := ⟨_, rfl⟩
        rw [← hE1, ← hN1] at HP HQ
        obtain ⟨XA, hXA⟩ : ∃ XA, XA = c15 x := ⟨_, rfl⟩
        rw [← hXA] at KB HD0 HCe ⊢
        rw [HDo.out]
        obtain ⟨k, hkk⟩ : ∃ k, k = x.k := ⟨_, rfl⟩
        rw [← hkk] at HCe h2 h3 h7 hk
        clear h hC hK hV hx hs hl hn0 hn1 hXA hkk HDo HAs HVs hE1 hN1 hd2
        go_enter Try.func7, Try.ntmps7
        go_upto_region 1 with fail
        refine fin (fun W => Duo15 PB RKB w0 W gp gr Fp Fq K K ∧ Blk W w.heap.size 45 XA.toArray) ⟨HD0.out, KB.out⟩ ?_
        clear HD0 KB
        rintro W ⟨hd, kb⟩
        obtain ⟨c0, -⟩ := HCe.out W kb
        have zb := kb.lt
        have HPc := Lib.hid (HP.out W hd)
        clear hd kb HP
        go_wp2_with fail
        refine HPc.out.mono ?_
        rintro e w1 ⟨rfl, Fp', hd1⟩
        have HQc := Lib.hid (HQ.out w1 Fp' hd1)
        clear c0 zb hd1 HPc HQ
        go_wp2_with fail
        refine HQc.out.mono ?_
        rintro e w2 ⟨rfl, Fq', hd2⟩
        have HE := Lib.hid hd2
        clear hd2 HQc
        go_wp2
        go_ret
        exact ⟨⟨_, rfl⟩, Fp', Fq', HE.out⟩
end
theorem wp_bs15 {op : Oper} {a : Go.Act} {w w' : World} {K : Go.Act → World → Prop} {Q : Exit → Go.Act → World → Prop} (t : TypeId) (x : Operand) (ho : op.op = .buildSlice t 1 #[(0, x)]) (val u : Value) (hx : a.eval x = val)
    (hrun : (Instr.buildSlice t 1 #[(0, val)]).run Try.prog w = .ok u w') (h : K (a.put op.dst u) w') : op.wp Try.prog a w K Q := by
  unfold Oper.wp execOp
  simp only [ho]
  simp [hx, hrun]
  exact h
set_option maxHeartbeats 8000000 in
set_option maxRecDepth 100000 in
theorem lof15_any (a : Option Addr) (n cap : Nat) (l : List (Int × Int)) (w : World) (row : RowX 2 cSn w a n l) (hn : n ≤ 1000) :
    Calls Try.prog 12 #[.slice a n cap] w fun e w' => ∃ v, e = .returned v ∧ OwnX 2 cSn 80 w' w.heap.size v l ∧ Below w.heap.size w w' := by
  have hbig := row.2.1
  have HL := Lib.hid row.1
  have HRow : Hid (∀ u, Below w.heap.size w u → RowX 2 cSn u a n l) := Lib.hid (fun u q => row.keep q)
  have HIb : Hid (∀ b off, a = some ⟨b, off, none⟩ → n = 0 ∨ b < w.heap.size) := Lib.hid (fun b off e => by
    rcases row.2.2 with c | ⟨b', off', e', hb', _⟩
    · exact Or.inl c
    · rw [e] at e'
      injection e' with e'
      injection e' with e1
      rw [e1]
      exact Or.inr hb')
  clear row
  go_enter Try.func12, Try.ntmps12
  go_wp2
  go_loopw [3, 4] (fun v3 i wr => ∃ j : Nat, j ≤ n ∧ i = .int .i64 j ∧ OwnX 2 cSn 80 wr w.heap.size v3 (l.take j) ∧ Below w.heap.size w wr) (fun _ i _ => n - (ivl i).toNat)
  case atStart => exact ⟨0, by omega, rfl, OwnX.nil _ _ _ _ _, Below.refl _ _⟩
  case round =>
    obtain ⟨j, hj, rfl, ho, hb⟩ := hrel
    have HO := Lib.hid ho
    have HB := Lib.hid hb
    have hrw := HRow.out wr hb
    have hsz : w.heap.size ≤ wr.heap.size := hb.size
    have hol := HO.out.lt
    clear ho hb
    by_cases hlt : j < n
    · obtain ⟨b, off, p, rfl, hbl, hx, hr⟩ := hrw.at_ hlt
      obtain ⟨y, d⟩ := p
      have hbw : b < w.heap.size := (HIb.out b off rfl).resolve_left (by omega)
      have HSt : Hid (l.take (j + 1) = l.take j ++ [(y, d)]) := Lib.hid (by rw [List.take_add_one, hx]; rfl)
      have HSu : Hid (∀ u : World, u.heap[b]? = wr.heap[b]? → u.cell? ⟨b, off + j * 2, none⟩ = some (.int .i64 y) ∧ u.cell? ⟨b, off + j * 2 + 1, none⟩ = some (.int .i64 d)) := Lib.hid (fun u e => by
        have q := range_same hr e
        exact ⟨q 0 _ rfl, q 1 _ rfl⟩)
      have hlj : (l.take j).length ≤ 2000 := by rw [List.length_take]; omega
      have S0 := Lib.hid (HSu.out wr rfl)
      have hal : Below wr.heap.size wr (wr.drew.alloc (.cells (cSn (y, d)).toArray 80)) := bthen (below_drew15 wr) (alloc_below _ _)
      have SB := Lib.hid (HSu.out _ (hal.block b hbl))
      have j0 : (0 : Int) ≤ (j : Int) := by omega
      have j1 : (j : Int) < (n : Int) := by omega
      clear hrw hx hr
      go_upto_region 5 with fail
      refine wp_region_held_drew (S := fun w' => w'.cell? ⟨b, off + j * 2, none⟩ = some (.int .i64 y) ∧ w'.cell? ⟨b, off + j * 2 + 1, none⟩ = some (.int .i64 d)) (by kernel_rfl) (S0.out) (fun hHeld => ?_)
      refine tk 0 hHeld ?_
      refine tk 1 hHeld ?_
      refine tk 2 hHeld ?_
      refine tk 3 hHeld ?_
      refine tk 4 hHeld ?_
      refine tk 5 hHeld ?_
      refine tk 6 hHeld ?_
      refine tk 7 hHeld ?_
      refine tk 8 hHeld ?_
      refine tk 9 hHeld ?_
      refine tk 10 hHeld ?_
      refine tk 11 hHeld ?_
      refine rd 12 (fun K hK => ?_)
      rw [if_pos (by rfl)]
      refine wp_bs15 31 (.tmp 22) rfl (.agg #[.int .i64 y, .int .i64 d]) (.slice (some ⟨wr.heap.size, 0, none⟩) 1 1) rfl (bs_seen15 y d _) ?_
      refine hK.out _ _ SB.out (fun hHeld => ?_)
      clear hK K
      simp only [Act.put, List.getElem_toArray, List.getElem_cons_zero, List.getElem_cons_succ, List.setIfInBounds_toArray, List.set_cons_zero, List.set_cons_succ]
      refine rd 13 (fun K hK => ?_)
      rw [if_pos (by rfl)]
      refine wp_push15 (.tmp 11) (.tmp 23) 31 16 (.agg #[.int .i64 0, .int .i64 0]) rfl Try.underlying31 zSn_info rfl (by decide) (by decide) cSn_len (y, d) (cSn_one _) u3 (l.take j) w.heap.size rfl (HO.out.keep hal) wr.heap.size rfl (Blk.new wr.drew _ _) hlj (Nat.le_trans hsz hal.size) ?_
      intro v' W2 k1 k2 k3
      have HE : Hid (OwnX 2 cSn 80 W2 w.heap.size v' (l.take (j + 1)) ∧ Below w.heap.size w W2) := Lib.hid (by
        refine ⟨by rw [HSt.out]; exact k1, ?_⟩
        have hb1 := bthen HB.out hal
        exact ⟨k2.os.trans hb1.os, k2.tape.trans hb1.tape, k2.output.trans hb1.output, Nat.le_trans hb1.size k2.size, fun q hq => (k2.block q (Nat.lt_of_lt_of_le hq hb1.size) (fun e => by have := (hol _ e.symm).1; omega)).trans (hb1.block q hq)⟩)
      have e2 : W2.heap[b]? = wr.heap[b]? := (HE.out.2.block b hbw).trans (HB.out.block b hbw).symm
      have SE := Lib.hid (HSu.out W2 e2)
      clear k1 k2 k3 e2
      refine hK.out _ _ SE.out (fun hHeld => ?_)
      clear hK K
      simp only [Act.put, List.getElem_toArray, List.getElem_cons_zero, List.getElem_cons_succ, List.setIfInBounds_toArray, List.set_cons_zero, List.set_cons_succ]
      refine tk 14 hHeld ?_
      refine wpAnyH_done (by kernel_rfl) ?_ _
      clear hHeld
      go_wp2
      go_roundw
      case rel => exact ⟨j + 1, by omega, by go_num, HE.out⟩
      case measure => simp [ivl] <;> omega
    · obtain rfl : j = n := by omega
      have e0 : l.take j = l := List.take_of_length_le (by rw [HL.out]; exact Nat.le_refl _)
      rw [e0] at HO
      have j1 : ¬ (j : Int) < (j : Int) := by omega
      clear e0 hrw
      go_wp2
      go_ret
      exact ⟨_, rfl, HO.out, HB.out⟩
set_option maxHeartbeats 8000000 in
set_option maxRecDepth 100000 in
theorem same15_yes (a b : Option Addr) (n cap cap' : Nat) (l : List (Int × Int)) (w : World) (row : RowX 2 cSn w a n l) (row' : RowX 2 cSn w b n l) :
    Calls Try.prog 11 #[.slice a n cap, .slice b n cap'] w fun e w' => e = .returned (.bool true) ∧ Below w.heap.size w w' := by
  have hbig := row.2.1
  have HRow : Hid (∀ u, Below w.heap.size w u → RowX 2 cSn u a n l ∧ RowX 2 cSn u b n l) := Lib.hid (fun u q => ⟨row.keep q, row'.keep q⟩)
  clear row row'
  go_enter Try.func11, Try.ntmps11
  go_wp2
  go_loopw [5] (fun i wr => ∃ k : Nat, k ≤ n ∧ i = .int .i64 k ∧ Below w.heap.size w wr) (fun i _ => n - (ivl i).toNat)
  case atStart => exact ⟨0, by omega, rfl, Below.refl _ _⟩
  case round =>
    obtain ⟨k, hk, rfl, hb⟩ := hrel
    have HB := Lib.hid hb
    obtain ⟨r1, r2⟩ := HRow.out wr hb
    clear hb
    have hk0 : (0 : Int) ≤ (k : Int) := by omega
    by_cases hlt : k < n
    · obtain ⟨b1, o1, p, rfl, hl1, hx, h1⟩ := r1.at_ hlt
      obtain ⟨b2, o2, p', rfl, hl2, hx', h2⟩ := r2.at_ hlt
      have ep : p' = p := Option.some.inj (hx'.symm.trans hx)
      subst ep
      obtain ⟨y, d⟩ := p'
      have c10 : wr.cell? ⟨b1, o1 + k * 2, none⟩ = some (.int .i64 y) := h1 0 _ rfl
      have c11 : wr.cell? ⟨b1, o1 + k * 2 + 1, none⟩ = some (.int .i64 d) := h1 1 _ rfl
      have c20 : wr.cell? ⟨b2, o2 + k * 2, none⟩ = some (.int .i64 y) := h2 0 _ rfl
      have c21 : wr.cell? ⟨b2, o2 + k * 2 + 1, none⟩ = some (.int .i64 d) := h2 1 _ rfl
      have hk1 : (k : Int) < (n : Int) := by omega
      clear r1 r2 h1 h2 hx hx'
      go_wp2
      go_quiet (fail)
      go_wp2
      go_roundw
      case rel => exact ⟨k + 1, by omega, by go_num, Go.below_drewN HB.out nq⟩
      case measure => simp [ivl] <;> omega
    · obtain rfl : k = n := by omega
      have hk1 : ¬ (k : Int) < (k : Int) := by omega
      clear r1 r2
      go_wp2
      go_ret
      exact ⟨rfl, HB.out⟩
end Go.Proofs.Ytjcibffhlhdjeaa
