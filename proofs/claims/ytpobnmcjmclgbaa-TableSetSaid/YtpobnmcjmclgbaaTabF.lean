/-
  As a set (layer 7), for any package that answers as the bundle says.
-/
import Derived.Test.YtpobnmcjmclgbaaTabE
namespace Go.Proofs.Ytpobnmcjmclgbaa
open Go.RowKit

section
variable {TB : World → Nat → (Nat → Prop) → Int → TR → Prop}
set_option maxHeartbeats 2000000 in
set_option maxRecDepth 100000 in
theorem set_many (hT : TC TB) (sv : Int) (a : Option Addr) (len cap : Nat) (w : World) (h : 80 < len) (hbig : len ≤ 9223372036854775807) (hs0 : 0 ≤ sv) (hs1 : sv ≤ 255) :
    Calls Try.prog 3 #[.int .u8 sv, .slice a len cap] w fun e w' => e = .returned (.bool true) ∧ Below w.heap.size w w' := by
  have A0 := Lib.hid (hT.2.2.1 w (sv % 32) (by omega))
  go_enter Try.func3, Try.ntmps3
  go_wp2_with fail
  refine A0.out.mono ?_
  rintro e w1 ⟨g, L0, rfl, tb, hl, hb⟩
  have HB := Lib.hid hb
  clear tb hl hb A0
  go_wp2_with fail
  refine (alive7 hT _).mono ?_
  rintro e w2 ⟨rfl, b1⟩
  replace HB := Lib.hid (bthen HB.out b1)
  clear b1
  go_wp2
  go_ret
  exact ⟨rfl, HB.out⟩

set_option maxHeartbeats 8000000 in
set_option maxRecDepth 100000 in
theorem set_few (hT : TC TB) (sv : Int) (a : Option Addr) (len cap : Nat) (acts : List AT) (w : World) (h : len ≤ 80) (row : ARow w a len acts) (hs0 : 0 ≤ sv) (hs1 : sv ≤ 255) :
    Calls Try.prog 3 #[.int .u8 sv, .slice a len cap] w fun e w' => e = .returned (.bool true) ∧ Below w.heap.size w w' := by
  have HTC := Lib.hid hT
  have HRow := Lib.hid row
  have A0 := Lib.hid (hT.2.2.1 w (sv % 32) (by omega))
  clear row hT
  go_enter Try.func3, Try.ntmps3
  go_wp2_with fail
  refine A0.out.mono ?_
  clear A0
  rintro e w1 ⟨g, L0, rfl, tb, hl, hb⟩
  obtain ⟨s, hs⟩ : ∃ s, s = sv % 32 := ⟨_, rfl⟩
  rw [← hs] at tb
  rw [← hs]
  have hsb : 0 ≤ s ∧ s ≤ 31 := by omega
  clear hs
  have HTB := Lib.hid tb
  have HL := Lib.hid hl
  have HB := Lib.hid hb
  clear tb hl hb
  obtain ⟨i0, hi0, hz0, hz1, hz2⟩ := info_parts rowinfo
  have HI := Lib.hid (And.intro hi0 (And.intro hz0 (And.intro hz1 hz2)))
  clear hi0 hz0 hz1 hz2
  go_wp2
  go_loopw [8, 9, 10, 12, 18] (fun v i _ _ _ wr => ∃ (k : Nat) (R T : TR) (L : Nat → Prop) (ta : Option Addr) (tc : Nat), k ≤ len ∧ i = .int .i64 k ∧ v = .slice ta T.length tc ∧ TB wr g L s R ∧ RRow wr ta T.length T ∧ Away L ta T.length ∧ Inv s R T ∧ R.length ≤ k ∧ (∀ b, L b → w.heap.size ≤ b) ∧ Below w.heap.size w wr) (fun _ i _ _ _ _ => len - (intOf i).toNat)
  case atStart => exact ⟨0, [], [], L0, none, 0, by omega, rfl, rfl, HTB.out, ⟨rfl, .inl rfl⟩, .inl rfl, inv_nil s, by simp, HL.out, HB.out⟩
  case round =>
    clear HTB HL HB
    obtain ⟨k, R, T, L, ta, tc, hk, rfl, rfl, tb, hrr, haw, hinv, hRl, hl, hb⟩ := hrel
    have HTB := Lib.hid tb
    have HRR := Lib.hid hrr
    have HAw := Lib.hid haw
    have HInv := Lib.hid hinv
    have HL := Lib.hid hl
    have HB := Lib.hid hb
    clear tb hrr haw hinv hl hb
    have HRR0 := HRR
    have hTl : T.length ≤ 80 := by have := HInv.out.1.length_eq; omega
    have hR1 : R.length ≤ 1000 := by omega
    by_cases hlt : k < len
    · obtain ⟨V0, hV0⟩ : ∃ V, V = wr := ⟨_, rfl⟩
      subst hV0
      obtain ⟨b, off, ⟨ak, aid, aP, arow⟩, rfl, hra, hk0, hk1⟩ := (HRow.out.keep HB.out).at_ hlt
      obtain ⟨E, hE⟩ : ∃ E, E = actE s R (ak % 4) aid aP arow := ⟨_, rfl⟩
      obtain ⟨N, hN⟩ : ∃ N, N = actN s R (ak % 4) aid aP arow := ⟨_, rfl⟩
      obtain ⟨R', hR'⟩ : ∃ R', R' = actR s R (ak % 4) aid aP arow := ⟨_, rfl⟩
      have HDo : Hid (∀ W, TB W g L s R → Calls Try.prog 7 #[.pointer (some ⟨g, 0, none⟩), .agg (acells (ak, aid, aP, arow)).toArray] W fun e w' => ∃ L', e = .returned (.tuple #[.int .i64 N, .int .i64 E]) ∧ TB w' g L' s R' ∧ Fr W w' L ∧ ∀ b, L' b → L b ∨ W.heap.size ≤ b) := Lib.hid (fun W tb => by rw [hN, hE, hR']; exact does_any HTC.out g L s R (ak, aid, aP, arow) W hR1 tb ⟨hk0, hk1⟩)
      have HBad : Hid (E ≠ 0 → R' = R) := Lib.hid (fun he => by rw [hR']; exact act_bad (by rw [← hE]; exact he))
      have HLen : Hid (R'.length ≤ R.length + 1) := Lib.hid (by rw [hR']; exact act_len s R (ak % 4) aid aP arow)
      have HXa := Lib.hid (pxA (ak, aid, aP, arow))
      have Ha0 : Hid ((acells (ak, aid, aP, arow))[0]? = some (.int .u8 ak)) := Lib.hid rfl
      have Ha1 : Hid ((acells (ak, aid, aP, arow))[1]? = some (.int .i64 aid)) := Lib.hid rfl
      have Ha26 : Hid ((acells (ak, aid, aP, arow))[26]? = some (.int .i64 arow)) := Lib.hid rfl
      have HaP : Hid (((acells (ak, aid, aP, arow)).drop 2).take 24 = pl aP) := Lib.hid rfl
      obtain ⟨Xa, hXa⟩ : ∃ Xa, Xa = acells (ak, aid, aP, arow) := ⟨_, rfl⟩
      rw [← hXa] at HDo HXa Ha0 Ha1 Ha26 HaP hra
      have HRa := Lib.hid hra
      clear hra hXa
      have hj0 : (0 : Int) ≤ (k : Int) := by omega
      have hj1 : (k : Int) < (len : Int) := by omega
      have HIn := Lib.hid (HTC.out.2.1 _ _ _ _ _ HTB.out)
      go_upto_region 12 with (first | refine wpList_load_mid rfl 41 (.tmp 50) rfl (b) (off + k * 27) rfl Xa _ (HRa.out) Try.underlying41 rfl HXa.out.2.1 ?_ | refine wpList_store_mid rfl 41 (.tmp 10) (.tmp 51) rfl V0.heap.size 0 Xa.toArray rfl rfl (thereX zAl HXa.out V0) HXa.out.2.2.1 HXa.out.2.2.2 ?_)
      refine fin (fun W => Blk W V0.heap.size 41 Xa.toArray ∧ Below V0.heap.size V0 W) ⟨(laidX zAl HXa.out V0).2, (laidX zAl HXa.out V0).1⟩ ?_
      rintro W1 ⟨k10, hb1⟩
      have K10 := Lib.hid k10
      replace HTB := Lib.hid (tb_keep HTC.out HTB.out hb1)
      replace HRR := Lib.hid (HRR.out.keep hb1)
      replace HB := Lib.hid (bthen HB.out hb1)
      have hz1 : V0.heap.size ≤ W1.heap.size := hb1.size
      have c26 : W1.cell? ⟨V0.heap.size, 26, none⟩ = some (.int .i64 arow) := by rw [k10.cell 26]; simpa using Ha26.out
      have z10 := k10.lt
      clear k10 hb1 HRa
      go_wp2_with fail
      refine (HTC.out.2.2.2.2.2.2.1 _ g L s R arow hR1 HTB.out).mono ?_
      rintro e W2 ⟨y, Py, rfl, hxy, hb2⟩
      have HXY := Lib.hid hxy
      have HXy := Lib.hid (pxP Py)
      obtain ⟨Xy, hXy⟩ : ∃ Xy, Xy = pl Py := ⟨_, rfl⟩
      rw [← hXy] at HXy
      rw [← hXy]
      replace K10 := Lib.hid (K10.out.keep hb2)
      replace HTB := Lib.hid (tb_keep HTC.out HTB.out hb2)
      replace HRR := Lib.hid (HRR.out.keep hb2)
      replace HB := Lib.hid (bthen HB.out hb2)
      have hz2 : V0.heap.size ≤ W2.heap.size := Nat.le_trans hz1 hb2.size
      clear hxy hb2 c26 z10 hz1 hXy
      obtain ⟨is, his⟩ : ∃ is, is = inR R arow := ⟨_, rfl⟩
      rw [← his]
      have HIs := Lib.hid his
      clear his
      go_upto_region 13 with (refine wpList_store_mid rfl 39 (.tmp 12) (.tmp 58) rfl W2.heap.size 0 Xy.toArray rfl rfl (thereX zPl HXy.out W2) HXy.out.2.2.1 HXy.out.2.2.2 ?_)
      refine fin (fun W => Blk W V0.heap.size 41 Xa.toArray ∧ TB W g L s R ∧ RRow W ta T.length T ∧ Below w.heap.size w W ∧ V0.heap.size ≤ W.heap.size) ⟨K10.out.keep (laidX zPl HXy.out W2).1, tb_keep HTC.out HTB.out (laidX zPl HXy.out W2).1, HRR.out.keep (laidX zPl HXy.out W2).1, bthen HB.out (laidX zPl HXy.out W2).1, Nat.le_trans hz2 (laidX zPl HXy.out W2).1.size⟩ ?_
      clear K10 HTB HRR HB hz2 HXy
      rintro W3 ⟨k10, tb, hrr, hb, hz3⟩
      have K10 := Lib.hid k10
      have HTB := Lib.hid tb
      have HRR := Lib.hid hrr
      have HB := Lib.hid hb
      clear k10 tb hrr hb
      have HStep : Hid (E = 0 → Inv s R' (nxL is y (ak % 4) aP T ++ (if ak % 4 < 2 then [(aid, aP)] else []))) := Lib.hid (fun he => by rw [hR', HIs.out]; exact inv_step HInv.out (by rw [← hE]; exact he) HXY.out (by omega) (by omega))
      clear hE hN hR' HXY HIs
      go_wp2_with (refine wpList_load_mid rfl 41 (.tmp 10) rfl (V0.heap.size) (0) rfl Xa _ (blk_whole K10.out) Try.underlying41 rfl HXa.out.2.1 ?_)
      refine (HDo.out _ HTB.out).mono ?_
      rintro e U ⟨L', rfl, tb, fr, hl⟩
      replace K10 := Lib.hid (show Blk U V0.heap.size 41 Xa.toArray from K10.out.same (fr.2.2.2.2 _ K10.out.lt (fun c => by have := HIn.out _ c; omega)))
      replace HRR := Lib.hid (HRR.out.frame HAw.out fr)
      have hsz : w.heap.size ≤ W3.heap.size := HB.out.size
      replace HAw := Lib.hid (away_new HAw.out HRR0.out hz3 hl)
      replace HB := Lib.hid (Fr.below fr HB.out HL.out hsz)
      replace HL : Hid (∀ b, L' b → w.heap.size ≤ b) := Lib.hid (fun b h => (hl b h).elim (HL.out b) (fun c => by omega))
      replace HTB := Lib.hid tb
      clear tb fr hl hsz hz3 HIn
      replace HIn := Lib.hid (HTC.out.2.1 _ _ _ _ _ HTB.out)
      have hq0 : 0 ≤ ak % 4 := by omega
      have hq3 : ak % 4 ≤ 3 := by omega
      clear HDo HRR0
      by_cases hE0 : E = 0
      · subst hE0
        have HSt := Lib.hid (HStep.out rfl)
        clear HStep HBad HInv
        go_wp2
        go_loopw [16, 17, 18] (fun v i _ wz => ∃ j : Nat, j ≤ T.length ∧ i = .int .i64 j ∧ OwnR wz U.heap.size v (nxL is y (ak % 4) aP (T.take j)).length (nxL is y (ak % 4) aP (T.take j)) ∧ Below U.heap.size U wz) (fun _ i _ _ => T.length - (intOf i).toNat)
        case atStart => exact ⟨0, by omega, rfl, OwnR.nil _ _, Below.refl _ _⟩
        case round =>
          obtain ⟨j, hj, rfl, hown, hb⟩ := hrel
          have HOwn := Lib.hid hown
          have HZ := Lib.hid hb
          clear hown hb
          by_cases hjl : j < T.length
          · obtain ⟨tb, ⟨xi, xP⟩, rfl, hxj, hrx⟩ := (HRR.out.keep HZ.out).at_ hjl
            have HNx : Hid (nxL is y (ak % 4) aP (T.take (j + 1)) = nxL is y (ak % 4) aP (T.take j) ++ (if nxK is y (ak % 4) (xi, xP) then [nx1 is y (ak % 4) aP (xi, xP)] else [])) := Lib.hid (by rw [List.take_add_one, hxj]; exact nxL_snoc _ _ _ _ _ _)
            have hNl : (nxL is y (ak % 4) aP (T.take j)).length ≤ 80 := by
              have h1 := nxL_len is y (ak % 4) aP (T.take j)
              rw [List.length_take] at h1
              omega
            obtain ⟨Nx, hNx⟩ : ∃ Nx, Nx = nxL is y (ak % 4) aP (T.take j) := ⟨_, rfl⟩
            rw [← hNx] at HNx HOwn hNl
            clear hNx hxj
            obtain ⟨n, hn⟩ : ∃ n, n = Nx.length := ⟨_, rfl⟩
            rw [← hn] at HOwn hNl
            have HN := Lib.hid hn
            clear hn
            have HXr := Lib.hid (pxR (xi, xP))
            have Hr0 : Hid ((rcells (xi, xP))[0]? = some (.int .i64 xi)) := Lib.hid rfl
            have Hsp : Hid (splice (rcells (xi, xP)) 1 (pl aP) = rcells (xi, aP)) := Lib.hid rfl
            have HBs := Lib.hid (build_rs (xi, xP))
            obtain ⟨Xr, hXr⟩ : ∃ Xr, Xr = rcells (xi, xP) := ⟨_, rfl⟩
            rw [← hXr] at HXr Hr0 Hsp hrx HBs
            have HXe := Lib.hid hXr
            have HRx := Lib.hid hrx
            clear hXr hrx
            have hq0 : (0 : Int) ≤ (j : Int) := by omega
            have hq1 : (j : Int) < (T.length : Int) := by omega
            have hU : U.heap.size ≤ wr.heap.size := HZ.out.size
            have z10w : V0.heap.size < wr.heap.size := (K10.out.keep HZ.out).lt
            go_upto_region 20 with (first | refine wpList_load_mid rfl 47 (.tmp 76) rfl (tb) (j * 25) rfl Xr _ (HRx.out) Try.underlying47 rfl HXr.out.2.1 ?_ | refine wpList_store_mid rfl 47 (.tmp 18) (.tmp 77) rfl wr.heap.size 0 Xr.toArray rfl rfl (thereX zRl HXr.out wr) HXr.out.2.2.1 HXr.out.2.2.2 ?_)
            refine fin (fun W => Blk W wr.heap.size 47 Xr.toArray ∧ Below wr.heap.size wr W) ⟨(laidX zRl HXr.out wr).2, (laidX zRl HXr.out wr).1⟩ ?_
            rintro V1 ⟨k18, hb1⟩
            have K18 := Lib.hid k18
            have HOwn0 := HOwn
            replace HOwn := Lib.hid (HOwn.out.keep hb1)
            have K10' := Lib.hid ((K10.out.keep HZ.out).keep hb1)
            have HZ1 := Lib.hid (HZ.out.trans (hb1.mono hU))
            have hU1 : U.heap.size ≤ V1.heap.size := Nat.le_trans hU hb1.size
            have cx : V1.cell? ⟨wr.heap.size, 0, none⟩ = some (.int .i64 xi) := by rw [k18.cell 0]; simpa using Hr0.out
            have ck : V1.cell? ⟨V0.heap.size, 0, none⟩ = some (.int .u8 ak) := by rw [K10'.out.cell 0]; simpa using Ha0.out
            have z18 := k18.lt
            have z10 := K10'.out.lt
            clear k18 hb1 HRx
            cases is with
            | false =>
              clear HOwn0
              have HK : Hid (nxL false y (ak % 4) aP (T.take (j + 1)) = Nx ++ [(xi, xP)]) := Lib.hid (by rw [HNx.out]; rfl)
              clear HNx
              go_wp2_with (first | refine wpList_load_mid rfl 47 (.tmp 18) rfl (wr.heap.size) (0) rfl Xr _ (blk_whole K18.out) Try.underlying47 rfl HXr.out.2.1 ?_ | refine wpList_bs rfl 29 47 (.tmp 109) rfl Xr rfl HBs.out ?_ | (at_builtin; refine wpList_appR rfl (.tmp 108) (.tmp 110) rfl U.heap.size n _ Nx rfl (xi, xP) Xr HXe.out rfl HOwn.out (by omega) hU1 ?_))
              intro v' w5 hown' hgrow
              have HO5 := Lib.hid hown'
              have HZ5 := Lib.hid (grownR_below HOwn.out (Nat.le_refl _) HZ1.out hU1 hgrow)
              clear hown' hgrow
              go_wp2
              go_roundw
              case rel => exact ⟨j + 1, by omega, by go_num, by rw [HK.out, List.length_append, ← HN.out]; exact HO5.out, HZ5.out⟩
              case measure => simp [intOf] <;> omega
            | true =>
              by_cases hxy : xi = y
              · subst hxy
                by_cases h2 : ak % 4 = 2
                · have HK : Hid (nxL true xi (ak % 4) aP (T.take (j + 1)) = Nx ++ [(xi, aP)]) := Lib.hid (by rw [HNx.out]; unfold nxK nx1; simp [h2])
                  clear HNx
                  have HRP : Hid (V1.rangeAt V0.heap.size 2 (pl aP)) := Lib.hid (HaP.out ▸ blk_range K10'.out 2 24)
                  have HXp := Lib.hid (pxP aP)
                  have HXn := Lib.hid (pxR (xi, aP))
                  have HBn := Lib.hid (build_rs (xi, aP))
                  obtain ⟨Xp, hXp⟩ : ∃ Xp, Xp = pl aP := ⟨_, rfl⟩
                  rw [← hXp] at HRP HXp Hsp
                  clear hXp
                  obtain ⟨Xn, hXn⟩ : ∃ Xn, Xn = rcells (xi, aP) := ⟨_, rfl⟩
                  rw [← hXn] at HXn HBn Hsp
                  have HXne := Lib.hid hXn
                  clear hXn
                  have HT1 : Hid (V1.there wr.heap.size 1 Xp.toArray.size) := Lib.hid (blk_there K18.out (by rw [List.size_toArray, HXp.out.1, HXr.out.1]; omega))
                  go_upto_region 22 with (first | refine wpList_load_mid rfl 39 (.tmp 91) rfl (V0.heap.size) (2) rfl Xp _ (HRP.out) Try.underlying39 rfl HXp.out.2.1 ?_ | refine wpList_store_mid rfl 39 (.tmp 93) (.tmp 92) rfl wr.heap.size 1 Xp.toArray rfl rfl (HT1.out) HXp.out.2.2.1 HXp.out.2.2.2 ?_)
                  refine fin (fun W => Blk W wr.heap.size 47 Xn.toArray ∧ Blk W V0.heap.size 41 Xa.toArray ∧ OwnR W U.heap.size _ n Nx ∧ Below U.heap.size U W ∧ V1.heap.size ≤ W.heap.size) ⟨Hsp.out ▸ blk_setCells Xp K18.out (by rw [HXp.out.1, HXr.out.1]; omega), blk_setFar Xp K10'.out (by omega), own_far HOwn.out (ownR_lt HOwn0.out) Xp, below_setCells Xp HZ1.out hU, by rw [size_sets]; exact Nat.le_refl _⟩ ?_
                  clear K18 K10' HOwn HOwn0 HZ1 cx ck z18 z10 HRP HT1
                  rintro V2 ⟨k18, k10, ho, hz, hV2⟩
                  have K18 := Lib.hid k18
                  have K10' := Lib.hid k10
                  have HOwn := Lib.hid ho
                  have HZ1 := Lib.hid hz
                  replace hU1 : U.heap.size ≤ V2.heap.size := Nat.le_trans hU1 hV2
                  have cx : V2.cell? ⟨wr.heap.size, 0, none⟩ = some (.int .i64 xi) := by rw [k18.cell 0, HXne.out]; rfl
                  have ck : V2.cell? ⟨V0.heap.size, 0, none⟩ = some (.int .u8 ak) := by rw [k10.cell 0]; simpa using Ha0.out
                  have z18 := k18.lt
                  have z10 := k10.lt
                  clear k18 k10 ho hz
                  go_wp2_with (first | refine wpList_load_mid rfl 47 (.tmp 18) rfl (wr.heap.size) (0) rfl Xn _ (blk_whole K18.out) Try.underlying47 rfl HXn.out.2.1 ?_ | refine wpList_bs rfl 29 47 (.tmp 109) rfl Xn rfl HBn.out ?_ | (at_builtin; refine wpList_appR rfl (.tmp 108) (.tmp 110) rfl U.heap.size n _ Nx rfl (xi, aP) Xn HXne.out rfl HOwn.out (by omega) hU1 ?_))
                  intro v' w5 hown' hgrow
                  have HO5 := Lib.hid hown'
                  have HZ5 := Lib.hid (grownR_below HOwn.out (Nat.le_refl _) HZ1.out hU1 hgrow)
                  clear hown' hgrow
                  go_wp2
                  go_roundw
                  case rel => exact ⟨j + 1, by omega, by go_num, by rw [HK.out, List.length_append, ← HN.out]; exact HO5.out, HZ5.out⟩
                  case measure => simp [intOf] <;> omega
                · by_cases h3 : ak % 4 = 3
                  · have HK : Hid (nxL true xi (ak % 4) aP (T.take (j + 1)) = Nx) := Lib.hid (by rw [HNx.out]; unfold nxK; simp [h3])
                    clear HNx
                    go_wp2
                    go_roundw
                    case rel => exact ⟨j + 1, by omega, by go_num, by rw [HK.out, ← HN.out]; exact HOwn.out, HZ1.out⟩
                    case measure => simp [intOf] <;> omega
                  · have HK : Hid (nxL true xi (ak % 4) aP (T.take (j + 1)) = Nx ++ [(xi, xP)]) := Lib.hid (by rw [HNx.out]; unfold nxK nx1; simp [h2, h3])
                    clear HNx
                    have g2 : (ak % 4 == 2) = false := by simpa using h2
                    have g3 : (ak % 4 == 3) = false := by simpa using h3
                    have g4 : (ak % 4 != 3) = true := by simpa using h3
                    go_wp2_with (first | refine wpList_load_mid rfl 47 (.tmp 18) rfl (wr.heap.size) (0) rfl Xr _ (blk_whole K18.out) Try.underlying47 rfl HXr.out.2.1 ?_ | refine wpList_bs rfl 29 47 (.tmp 109) rfl Xr rfl HBs.out ?_ | (at_builtin; refine wpList_appR rfl (.tmp 108) (.tmp 110) rfl U.heap.size n _ Nx rfl (xi, xP) Xr HXe.out rfl HOwn.out (by omega) hU1 ?_))
                    intro v' w5 hown' hgrow
                    have HO5 := Lib.hid hown'
                    have HZ5 := Lib.hid (grownR_below HOwn.out (Nat.le_refl _) HZ1.out hU1 hgrow)
                    clear hown' hgrow
                    go_wp2
                    go_roundw
                    case rel => exact ⟨j + 1, by omega, by go_num, by rw [HK.out, List.length_append, ← HN.out]; exact HO5.out, HZ5.out⟩
                    case measure => simp [intOf] <;> omega
              · have HK : Hid (nxL true y (ak % 4) aP (T.take (j + 1)) = Nx ++ [(xi, xP)]) := Lib.hid (by rw [HNx.out]; unfold nxK nx1; simp [hxy])
                clear HNx
                have gxy : (xi == y) = false := by simpa using hxy
                have gxy2 : (xi != y) = true := by simpa using hxy
                go_wp2_with (first | refine wpList_load_mid rfl 47 (.tmp 18) rfl (wr.heap.size) (0) rfl Xr _ (blk_whole K18.out) Try.underlying47 rfl HXr.out.2.1 ?_ | refine wpList_bs rfl 29 47 (.tmp 109) rfl Xr rfl HBs.out ?_ | (at_builtin; refine wpList_appR rfl (.tmp 108) (.tmp 110) rfl U.heap.size n _ Nx rfl (xi, xP) Xr HXe.out rfl HOwn.out (by omega) hU1 ?_))
                intro v' w5 hown' hgrow
                have HO5 := Lib.hid hown'
                have HZ5 := Lib.hid (grownR_below HOwn.out (Nat.le_refl _) HZ1.out hU1 hgrow)
                clear hown' hgrow
                go_wp2
                go_roundw
                case rel => exact ⟨j + 1, by omega, by go_num, by rw [HK.out, List.length_append, ← HN.out]; exact HO5.out, HZ5.out⟩
                case measure => simp [intOf] <;> omega
          · obtain rfl : j = T.length := by omega
            rw [List.take_length] at HOwn
            have K10' := Lib.hid (K10.out.keep HZ.out)
            have ck : wr.cell? ⟨V0.heap.size, 0, none⟩ = some (.int .u8 ak) := by rw [K10'.out.cell 0]; simpa using Ha0.out
            have ca1 : wr.cell? ⟨V0.heap.size, 1, none⟩ = some (.int .i64 aid) := by rw [K10'.out.cell 1]; simpa using Ha1.out
            have z10 := K10'.out.lt
            have hNl : (nxL is y (ak % 4) aP T).length ≤ 80 := by
              have h1 := nxL_len is y (ak % 4) aP T
              omega
            have hU1 : U.heap.size ≤ wr.heap.size := HZ.out.size
            have HTB0 := HTB
            replace HTB := Lib.hid (tb_keep HTC.out HTB.out HZ.out)
            obtain ⟨Nx, hNx⟩ : ∃ Nx, Nx = nxL is y (ak % 4) aP T := ⟨_, rfl⟩
            rw [← hNx] at HSt HOwn hNl
            clear hNx
            obtain ⟨n, hn⟩ : ∃ n, n = Nx.length := ⟨_, rfl⟩
            rw [← hn] at HOwn hNl
            have HN := Lib.hid hn
            clear hn
            by_cases h2 : ak % 4 < 2
            · rw [if_pos h2] at HSt
              have HRP : Hid (wr.rangeAt V0.heap.size 2 (pl aP)) := Lib.hid (HaP.out ▸ blk_range K10'.out 2 24)
              have HXp := Lib.hid (pxP aP)
              have HXn := Lib.hid (pxR (aid, aP))
              have HBn := Lib.hid (build_rs (aid, aP))
              have HBd := Lib.hid (build_row aid aP)
              obtain ⟨Xp, hXp⟩ : ∃ Xp, Xp = pl aP := ⟨_, rfl⟩
              rw [← hXp] at HRP HXp HBd
              clear hXp
              obtain ⟨Xn, hXn⟩ : ∃ Xn, Xn = rcells (aid, aP) := ⟨_, rfl⟩
              rw [← hXn] at HXn HBn HBd
              have HXne := Lib.hid hXn
              clear hXn
              go_wp2_with (first | refine wpList_load_mid rfl 39 (.tmp 119) rfl (V0.heap.size) (2) rfl Xp _ (HRP.out) Try.underlying39 rfl HXp.out.2.1 ?_ | refine wpList_bld rfl 47 (.tmp 118) (.tmp 120) rfl (.int .i64 aid) (.agg Xp.toArray) (.agg Xn.toArray) rfl rfl HBd.out ?_ | refine wpList_bs rfl 29 47 (.tmp 121) rfl Xn rfl HBn.out ?_ | (at_builtin; refine wpList_appR rfl (.tmp 116) (.tmp 122) rfl U.heap.size n _ Nx rfl (aid, aP) Xn HXne.out rfl HOwn.out (by omega) hU1 ?_))
              intro v' w5 hown' hgrow
              have HZ5 := Lib.hid (grownR_below HOwn.out (Nat.le_refl _) HZ.out hU1 hgrow)
              clear hgrow
              obtain ⟨ta', tc', rfl, hrr', hab⟩ := hown'.row
              have HR5 := Lib.hid hrr'
              have HA5 := Lib.hid hab
              clear hown' hrr' hab
              go_wp2
              go_roundw
              case rel =>
                have el : (Nx ++ [(aid, aP)]).length = n + 1 := by rw [List.length_append, ← HN.out]; rfl
                refine ⟨k + 1, R', Nx ++ [(aid, aP)], L', ta', tc', by omega, by go_num, by rw [el], HTC.out.1 _ _ _ _ _ _ HTB0.out (fun b hb => HZ5.out.block b (HIn.out b hb)), by rw [el]; exact HR5.out, by rw [el]; exact HA5.out.imp id (fun h b e hL => by have := h b e; have := HIn.out b hL; omega), HSt.out, by have := HLen.out; omega, HL.out, bthen HB.out HZ5.out⟩
              case measure => simp [intOf] <;> omega
            · rw [if_neg h2, List.append_nil] at HSt
              have h2' : 2 ≤ ak % 4 := by omega
              obtain ⟨ta', tc', rfl, hrr', hab⟩ := HOwn.out.row
              have HR5 := Lib.hid hrr'
              have HA5 := Lib.hid hab
              clear hrr' hab
              go_wp2
              go_roundw
              case rel =>
                refine ⟨k + 1, R', Nx, L', ta', tc', by omega, by go_num, by rw [← HN.out], HTB.out, by rw [← HN.out]; exact HR5.out, by rw [← HN.out]; exact HA5.out.imp id (fun h b e hL => by have := h b e; have := HIn.out b hL; omega), HSt.out, by have := HLen.out; omega, HL.out, bthen HB.out HZ.out⟩
              case measure => simp [intOf] <;> omega
      · have gE : (E != 0) = true := by simpa using hE0
        have HRe := Lib.hid (HBad.out hE0)
        clear hE0 HBad HStep
        go_wp2
        go_roundw
        case rel => exact ⟨k + 1, R', T, L', ta, tc, by omega, by go_num, rfl, HTB.out, HRR.out, HAw.out, by rw [HRe.out]; exact HInv.out, by have := HLen.out; omega, HL.out, HB.out⟩
        case measure => simp [intOf] <;> omega
    · obtain rfl : k = len := by omega
      go_wp2
      go_loopw [19, 21] (fun i _ wz => ∃ j : Nat, j ≤ T.length ∧ i = .int .i64 j ∧ TB wz g L s R ∧ RRow wz ta T.length T ∧ Below w.heap.size w wz) (fun i _ _ => T.length - (intOf i).toNat)
      case atStart => exact ⟨0, by omega, rfl, HTB.out, HRR.out, HB.out⟩
      case round =>
        clear HTB HRR HB HRR0
        obtain ⟨j, hj, rfl, tb, hrr, hb⟩ := hrel
        have HTB := Lib.hid tb
        have HRR := Lib.hid hrr
        have HB := Lib.hid hb
        clear tb hrr hb
        by_cases hjl : j < T.length
        · obtain ⟨b, ⟨xi, xP⟩, rfl, hxj, hrx⟩ := HRR.out.at_ hjl
          have hmem : (xi, xP) ∈ R := HInv.out.1.mem_iff.1 (List.mem_of_getElem? hxj)
          obtain ⟨hin, hget⟩ := find_mem HInv.out.2.1 hmem
          have hfit := HInv.out.2.2 _ hmem
          unfold fitsB at hfit
          rw [Bool.and_eq_true] at hfit
          have hps : xP.1 = s := by simpa using hfit.2
          have HFi : Hid (∀ W, TB W g L s R → Calls Try.prog 8 #[.pointer (some ⟨g, 0, none⟩), .int .i64 xi] W fun e w' => e = .returned (.int .i64 (findI R xi)) ∧ Below W.heap.size W w') := Lib.hid (fun W tb => HTC.out.2.2.2.2.2.2.2.1 W g L s R xi hR1 tb)
          have HRo : Hid (∀ W, TB W g L s R → Calls Try.prog 6 #[.pointer (some ⟨g, 0, none⟩), .int .i64 (findI R xi)] W fun e w' => e = .returned (.tuple #[.int .i64 xi, .agg (pl xP).toArray, .bool true]) ∧ Below W.heap.size W w') := Lib.hid (fun W tb => by
            refine (HTC.out.2.2.2.2.2.2.1 W g L s R (findI R xi) hR1 tb).mono ?_
            rintro e w' ⟨x', P', rfl, hx', hb⟩
            have e2 : (x', P') = (xi, xP) := (hx' hin).trans hget
            obtain ⟨rfl, rfl⟩ := Prod.mk.inj e2
            exact ⟨by rw [hin], hb⟩)
          have HRi : Hid (∀ W, Calls Try.prog 9 #[.agg (pl xP).toArray] W fun e w' => e = .returned (.bool true) ∧ Below W.heap.size W w') := Lib.hid (fun W => rrightT hfit.1 W)
          have hq : ∀ W, (Op.equalIn 10000 39 (.agg (pl xP).toArray) (.agg (pl xP).toArray)).run Try.prog W = .ok true W := fun W => by
            have := eqT_run xP xP W
            rw [eqT_self] at this
            exact this
          have HXq := Lib.hid (pxP xP)
          have Hq0 : Hid ((pl xP)[0]? = some (.int .i64 s)) := Lib.hid (by rw [← hps]; rfl)
          have cxi : wr.cell? ⟨b, j * 25, none⟩ = some (.int .i64 xi) := hrx 0 _ rfl
          have HRg : Hid (wr.rangeAt b (j * 25 + 1) (pl xP)) := Lib.hid (fun i v hv => by
            have := hrx (i + 1) v (by unfold rcells; simpa using hv)
            rw [show j * 25 + 1 + i = j * 25 + (i + 1) by omega]
            exact this)
          obtain ⟨Xq, hXq⟩ : ∃ Xq, Xq = pl xP := ⟨_, rfl⟩
          rw [← hXq] at HRo HRi hq HXq Hq0 HRg
          clear hXq hrx hmem hin hget hfit hps hxj
          obtain ⟨F, hF⟩ : ∃ F, F = findI R xi := ⟨_, rfl⟩
          rw [← hF] at HFi HRo
          clear hF
          have hj0 : (0 : Int) ≤ (j : Int) := by omega
          have hj1 : (j : Int) < (T.length : Int) := by omega
          have zb : b < wr.heap.size := cell_lt cxi
          go_wp2_with fail
          refine (HFi.out _ HTB.out).mono ?_
          rintro e y1 ⟨rfl, b1⟩
          replace HTB := Lib.hid (tb_keep HTC.out HTB.out b1)
          replace HRR := Lib.hid (HRR.out.keep b1)
          replace HRg := Lib.hid (range_keep HRg.out b1)
          replace HB := Lib.hid (bthen HB.out b1)
          clear b1 cxi zb
          go_wp2_with fail
          refine (HRo.out _ HTB.out).mono ?_
          rintro e y2 ⟨rfl, b1⟩
          replace HTB := Lib.hid (tb_keep HTC.out HTB.out b1)
          replace HRR := Lib.hid (HRR.out.keep b1)
          replace HRg := Lib.hid (range_keep HRg.out b1)
          replace HB := Lib.hid (bthen HB.out b1)
          clear b1
          go_upto_region 31 with (refine wpList_store_mid rfl 39 (.tmp 21) (.tmp 142) rfl y2.heap.size 0 Xq.toArray rfl rfl (thereX zPl HXq.out y2) HXq.out.2.2.1 HXq.out.2.2.2 ?_)
          refine fin (fun W => Blk W y2.heap.size 39 Xq.toArray ∧ TB W g L s R ∧ RRow W (some ⟨b, 0, none⟩) T.length T ∧ W.rangeAt b (j * 25 + 1) Xq ∧ Below w.heap.size w W) ⟨(laidX zPl HXq.out y2).2, tb_keep HTC.out HTB.out (laidX zPl HXq.out y2).1, HRR.out.keep (laidX zPl HXq.out y2).1, range_keep HRg.out (laidX zPl HXq.out y2).1, bthen HB.out (laidX zPl HXq.out y2).1⟩ ?_
          clear HTB HRR HRg HB
          rintro Y3 ⟨k21, tb, hrr, hrg, hb⟩
          have K21 := Lib.hid k21
          have HTB := Lib.hid tb
          have HRR := Lib.hid hrr
          have HRg := Lib.hid hrg
          have HB := Lib.hid hb
          clear k21 tb hrr hrg hb
          go_wp2_with (refine wpList_load_mid rfl 39 (.tmp 21) rfl (y2.heap.size) (0) rfl Xq _ (blk_whole K21.out) Try.underlying39 rfl HXq.out.2.1 ?_)
          refine (HRi.out _).mono ?_
          rintro e y4 ⟨rfl, b1⟩
          replace K21 := Lib.hid (K21.out.keep b1)
          replace HTB := Lib.hid (tb_keep HTC.out HTB.out b1)
          replace HRR := Lib.hid (HRR.out.keep b1)
          replace HRg := Lib.hid (range_keep HRg.out b1)
          replace HB := Lib.hid (bthen HB.out b1)
          clear b1
          have hu := Try.underlying39
          have HC0 : Hid (y4.cell? ⟨y2.heap.size, 0, none⟩ = some (.int .i64 s)) := Lib.hid (by rw [K21.out.cell 0]; simpa using Hq0.out)
          go_wp2
          refine wp_region_held_drew (S := fun w' => w'.rangeAt y2.heap.size 0 Xq ∧ w'.rangeAt b (j * 25 + 1) Xq ∧ w'.cell? ⟨y2.heap.size, 0, none⟩ = some (.int .i64 s)) (by kernel_rfl) ⟨blk_whole K21.out, HRg.out, HC0.out⟩ (fun hHeld => ?_)
          refine wpAnyH_take (i := 0) (v := ?_) rfl (by kernel_rfl) (by kernel_rfl) (by kernel_rfl) (fun _ _ _ h => h) (Or.inl ⟨by rfl, ?_⟩) hHeld ?_
          rotate_left
          · rintro w ⟨s1, s2, s3⟩
            go_simp
            with_reducible rfl
          simp only [Act.put, List.getElem_toArray, List.getElem_cons_zero, List.setIfInBounds_toArray, List.set_cons_zero, List.set_cons_succ]
          refine wpAnyH_take (i := 1) (v := ?_) rfl (by kernel_rfl) (by kernel_rfl) (by kernel_rfl) (fun _ _ _ h => h) (Or.inl ⟨by rfl, ?_⟩) hHeld ?_
          rotate_left
          · rintro w ⟨s1, s2, s3⟩
            go_simp
            with_reducible rfl
          simp only [Act.put, List.getElem_toArray, List.getElem_cons_zero, List.getElem_cons_succ, List.setIfInBounds_toArray, List.set_cons_zero, List.set_cons_succ]
          refine wpAnyH_take (i := 2) (v := ?_) rfl (by kernel_rfl) (by kernel_rfl) (by kernel_rfl) (fun _ _ _ h => h) (Or.inl ⟨by rfl, ?_⟩) hHeld ?_
          rotate_left
          · rintro w ⟨s1, s2, s3⟩
            go_simp
            with_reducible rfl
          simp only [Act.put, List.getElem_toArray, List.getElem_cons_zero, List.getElem_cons_succ, List.setIfInBounds_toArray, List.set_cons_zero, List.set_cons_succ]
          refine wpAnyH_take (i := 3) (v := ?_) rfl (by kernel_rfl) (by kernel_rfl) (by kernel_rfl) (fun _ _ _ h => h) (Or.inl ⟨by rfl, ?_⟩) hHeld ?_
          rotate_left
          · rintro w ⟨s1, s2, s3⟩
            go_simp
            with_reducible rfl
          simp only [Act.put, List.getElem_toArray, List.getElem_cons_zero, List.getElem_cons_succ, List.setIfInBounds_toArray, List.set_cons_zero, List.set_cons_succ]
          refine wpAnyH_take (i := 4) (v := ?_) rfl (by kernel_rfl) (by kernel_rfl) (by kernel_rfl) (fun _ _ _ h => h) (Or.inl ⟨by rfl, ?_⟩) hHeld ?_
          rotate_left
          · rintro w ⟨s1, s2, s3⟩
            go_simp
            with_reducible rfl
          simp only [Act.put, List.getElem_toArray, List.getElem_cons_zero, List.getElem_cons_succ, List.setIfInBounds_toArray, List.set_cons_zero, List.set_cons_succ]
          refine wpAnyH_take (i := 5) (v := ?_) rfl (by kernel_rfl) (by kernel_rfl) (by kernel_rfl) (fun _ _ _ h => h) (Or.inl ⟨by rfl, ?_⟩) hHeld ?_
          rotate_left
          · rintro w ⟨s1, s2, s3⟩
            go_simp
            with_reducible rfl
          simp only [Act.put, List.getElem_toArray, List.getElem_cons_zero, List.getElem_cons_succ, List.setIfInBounds_toArray, List.set_cons_zero, List.set_cons_succ]
          refine wpAnyH_take (i := 6) (v := ?_) rfl (by kernel_rfl) (by kernel_rfl) (by kernel_rfl) (fun _ _ _ h => h) (Or.inl ⟨by rfl, ?_⟩) hHeld ?_
          rotate_left
          · rintro w ⟨s1, s2, s3⟩
            go_simp
            with_reducible rfl
          simp only [Act.put, List.getElem_toArray, List.getElem_cons_zero, List.getElem_cons_succ, List.setIfInBounds_toArray, List.set_cons_zero, List.set_cons_succ]
          refine wpAnyH_take (i := 7) (v := _) rfl (by kernel_rfl) (by kernel_rfl) (by kernel_rfl) (fun _ _ _ h => h) (yieldsIf_load_mid (by rfl) _ _ rfl _ _ rfl _ _ (fun _ h => h.1) hu rfl HXq.out.2.1) hHeld ?_
          simp only [Act.put, List.getElem_toArray, List.getElem_cons_zero, List.getElem_cons_succ, List.setIfInBounds_toArray, List.set_cons_zero, List.set_cons_succ]
          refine wpAnyH_take (i := 8) (v := ?_) rfl (by kernel_rfl) (by kernel_rfl) (by kernel_rfl) (fun _ _ _ h => h) (Or.inl ⟨by rfl, ?_⟩) hHeld ?_
          rotate_left
          · rintro w ⟨s1, s2, s3⟩
            go_simp
            with_reducible rfl
          simp only [Act.put, List.getElem_toArray, List.getElem_cons_zero, List.getElem_cons_succ, List.setIfInBounds_toArray, List.set_cons_zero, List.set_cons_succ]
          refine wpAnyH_take (i := 9) (v := ?_) rfl (by kernel_rfl) (by kernel_rfl) (by kernel_rfl) (fun _ _ _ h => h) (Or.inl ⟨by rfl, ?_⟩) hHeld ?_
          rotate_left
          · rintro w ⟨s1, s2, s3⟩
            go_simp
            with_reducible rfl
          simp only [Act.put, List.getElem_toArray, List.getElem_cons_zero, List.getElem_cons_succ, List.setIfInBounds_toArray, List.set_cons_zero, List.set_cons_succ]
          refine wpAnyH_take (i := 10) (v := ?_) rfl (by kernel_rfl) (by kernel_rfl) (by kernel_rfl) (fun _ _ _ h => h) (Or.inl ⟨by rfl, ?_⟩) hHeld ?_
          rotate_left
          · rintro w ⟨s1, s2, s3⟩
            go_simp
            with_reducible rfl
          simp only [Act.put, List.getElem_toArray, List.getElem_cons_zero, List.getElem_cons_succ, List.setIfInBounds_toArray, List.set_cons_zero, List.set_cons_succ]
          refine wpAnyH_take (i := 11) (v := ?_) rfl (by kernel_rfl) (by kernel_rfl) (by kernel_rfl) (fun _ _ _ h => h) (Or.inl ⟨by rfl, ?_⟩) hHeld ?_
          rotate_left
          · rintro w ⟨s1, s2, s3⟩
            go_simp
            with_reducible rfl
          simp only [Act.put, List.getElem_toArray, List.getElem_cons_zero, List.getElem_cons_succ, List.setIfInBounds_toArray, List.set_cons_zero, List.set_cons_succ]
          refine wpAnyH_take (i := 12) (v := _) rfl (by kernel_rfl) (by kernel_rfl) (by kernel_rfl) (fun _ _ _ h => h) (yieldsIf_load_mid (by rfl) _ _ rfl _ _ rfl _ _ (fun _ h => h.2.1) hu rfl HXq.out.2.1) hHeld ?_
          simp only [Act.put, List.getElem_toArray, List.getElem_cons_zero, List.getElem_cons_succ, List.setIfInBounds_toArray, List.set_cons_zero, List.set_cons_succ]
          refine wpAnyH_take (i := 13) (v := ?_) rfl (by kernel_rfl) (by kernel_rfl) (by kernel_rfl) (fun _ _ _ h => h) (Or.inl ⟨by rfl, ?_⟩) hHeld ?_
          rotate_left
          · rintro w ⟨s1, s2, s3⟩
            go_simp
            with_reducible rfl
          simp only [Act.put, List.getElem_toArray, List.getElem_cons_zero, List.getElem_cons_succ, List.setIfInBounds_toArray, List.set_cons_zero, List.set_cons_succ]
          refine wpAnyH_take (i := 14) (v := ?_) rfl (by kernel_rfl) (by kernel_rfl) (by kernel_rfl) (fun _ _ _ h => h) (Or.inl ⟨by rfl, ?_⟩) hHeld ?_
          rotate_left
          · rintro w ⟨s1, s2, s3⟩
            go_simp
            with_reducible rfl
          simp only [Act.put, List.getElem_toArray, List.getElem_cons_zero, List.getElem_cons_succ, List.setIfInBounds_toArray, List.set_cons_zero, List.set_cons_succ]
          refine wpAnyH_take (i := 15) (v := ?_) rfl (by kernel_rfl) (by kernel_rfl) (by kernel_rfl) (fun _ _ _ h => h) (Or.inl ⟨by rfl, ?_⟩) hHeld ?_
          rotate_left
          · rintro w ⟨s1, s2, s3⟩
            go_simp
            with_reducible rfl
          simp only [Act.put, List.getElem_toArray, List.getElem_cons_zero, List.getElem_cons_succ, List.setIfInBounds_toArray, List.set_cons_zero, List.set_cons_succ]
          refine wpAnyH_take (i := 16) (v := ?_) rfl (by kernel_rfl) (by kernel_rfl) (by kernel_rfl) (fun _ _ _ h => h) (Or.inl ⟨by rfl, ?_⟩) hHeld ?_
          rotate_left
          · rintro w ⟨s1, s2, s3⟩
            go_simp
            with_reducible rfl
          simp only [Act.put, List.getElem_toArray, List.getElem_cons_zero, List.getElem_cons_succ, List.setIfInBounds_toArray, List.set_cons_zero, List.set_cons_succ]
          refine wpAnyH_take (i := 17) (v := ?_) rfl (by kernel_rfl) (by kernel_rfl) (by kernel_rfl) (fun _ _ _ h => h) (Or.inl ⟨by rfl, ?_⟩) hHeld ?_
          rotate_left
          · rintro w ⟨s1, s2, s3⟩
            go_simp
            with_reducible rfl
          simp only [Act.put, List.getElem_toArray, List.getElem_cons_zero, List.getElem_cons_succ, List.setIfInBounds_toArray, List.set_cons_zero, List.set_cons_succ]
          refine wpAnyH_take (i := 18) (v := ?_) rfl (by kernel_rfl) (by kernel_rfl) (by kernel_rfl) (fun _ _ _ h => h) (Or.inl ⟨by rfl, ?_⟩) hHeld ?_
          rotate_left
          · rintro w ⟨s1, s2, s3⟩
            go_simp
            with_reducible rfl
          simp only [Act.put, List.getElem_toArray, List.getElem_cons_zero, List.getElem_cons_succ, List.setIfInBounds_toArray, List.set_cons_zero, List.set_cons_succ]
          refine wpAnyH_take (i := 19) (v := ?_) rfl (by kernel_rfl) (by kernel_rfl) (by kernel_rfl) (fun _ _ _ h => h) (Or.inl ⟨by rfl, ?_⟩) hHeld ?_
          rotate_left
          · rintro w ⟨s1, s2, s3⟩
            go_simp
            with_reducible rfl
          simp only [Act.put, List.getElem_toArray, List.getElem_cons_zero, List.getElem_cons_succ, List.setIfInBounds_toArray, List.set_cons_zero, List.set_cons_succ]
          refine wpAnyH_take (i := 20) (v := ?_) rfl (by kernel_rfl) (by kernel_rfl) (by kernel_rfl) (fun _ _ _ h => h) (Or.inl ⟨by rfl, ?_⟩) hHeld ?_
          rotate_left
          · rintro w ⟨s1, s2, s3⟩
            go_simp
            with_reducible rfl
          simp only [Act.put, List.getElem_toArray, List.getElem_cons_zero, List.getElem_cons_succ, List.setIfInBounds_toArray, List.set_cons_zero, List.set_cons_succ]
          refine wpAnyH_done (by kernel_rfl) ?_ _
          clear hHeld
          go_wp2
          go_roundw
          case rel => exact ⟨j + 1, by omega, by go_num, HTC.out.1 _ _ _ _ _ _ HTB.out (fun _ _ => rfl), HRR.out, bdrewn HB.out⟩
          case measure => simp [intOf] <;> omega
        · have hTR := HInv.out.1.length_eq
          go_wp2_with fail
          refine (alive7 HTC.out _).mono ?_
          rintro e y1 ⟨rfl, b1⟩
          replace HTB := Lib.hid (tb_keep HTC.out HTB.out b1)
          replace HB := Lib.hid (bthen HB.out b1)
          clear b1
          go_wp2_with fail
          refine (HTC.out.2.2.2.2.2.2.2.2 _ g L s R hR1 HTB.out).mono ?_
          rintro e y2 ⟨rfl, b1⟩
          replace HB := Lib.hid (bthen HB.out b1)
          clear b1
          rw [← hTR]
          clear hTR
          go_wp2
          go_ret
          exact ⟨rfl, HB.out⟩

end
end Go.Proofs.Ytpobnmcjmclgbaa
