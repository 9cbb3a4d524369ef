/-
  ForestRing for any package that answers as the bundle says: the walk.
-/
import Derived.Test.YtbddpbfkobdhoaaForI
namespace Go.Proofs.Ytbddpbfkobdhoaa
open Go.RowKit

def anyT (ns l : List Int) (j : Nat) : Bool := (l.take j).any (fun a => decide (a ∈ ns))
theorem anyT_step {ns l : List Int} {j : Nat} {a : Int} (h : l[j]? = some a) : anyT ns l (j + 1) = (anyT ns l j || decide (a ∈ ns)) := by
  unfold anyT
  rw [List.take_add_one, h, List.any_append]
  simp
/-- one that is under names: it is one of them, or has one of them above -/
theorem und_in {L : FT} (h : WF L) {l : List Int} {u : Int} (hu : u ∈ undL L l) : (decide (u ∈ l) || anyT l (abv L u) (abv L u).length) = true := by
  obtain ⟨x, hx, hz⟩ := (mem_undL h).1 hu
  unfold anyT
  rw [List.take_length, Bool.or_eq_true, decide_eq_true_eq, List.any_eq_true]
  rcases hz with rfl | hz
  · exact Or.inl hx
  · exact Or.inr ⟨x, hz, by simpa using hx⟩
theorem und_child {L : FT} (h : WF L) {l : List Int} {u c : Int} (hu : u ∈ undL L l) (hc : c ∈ chF L u) : c ∈ undL L l := by
  obtain ⟨x, hx, hz⟩ := (mem_undL h).1 hu
  have e := abv_some h ((mem_chF h.1).1 hc)
  refine (mem_undL h).2 ⟨x, hx, Or.inr ?_⟩
  rw [e]
  rcases hz with rfl | hz
  · exact List.mem_cons_self
  · exact List.mem_cons_of_mem _ hz
theorem und_name {L : FT} (h : WF L) {l : List Int} {x : Int} (hx : x ∈ l) : x ∈ undL L l := (mem_undL h).2 ⟨x, hx, Or.inl rfl⟩
theorem undL_nod {L : FT} (h : WF L) (l : List Int) : (undL L l).Nodup := und_nod h (sort_sorted l [] List.Pairwise.nil)
theorem undL_len {L : FT} (h : WF L) (l : List Int) : (undL L l).length ≤ l.length + L.length := by
  have h1 := und_len h (ns := sortI l) (sort_sorted l [] List.Pairwise.nil)
  have h2 := (sortI_perm l).length_eq
  unfold undL
  omega
theorem und_rng {L : FT} (h : WF L) (hr : ∀ p ∈ L, Rg p.1 ∧ Rg p.2) {l : List Int} (hl : Rgs l) {u : Int} (hu : u ∈ undL L l) : Rg u := by
  obtain ⟨x, hx, hz⟩ := (mem_undL h).1 hu
  rcases hz with rfl | hz
  · exact hl u hx
  · obtain ⟨p, hp, rfl⟩ := List.mem_map.1 (abv_fst h hz)
    exact (hr p hp).1
theorem nod_take {U : List Int} (h : U.Nodup) {i : Nat} {u : Int} (hu : U[i]? = some u) : u ∉ U.take i := fun hm => by
  obtain ⟨j, hj, e⟩ := List.mem_iff_getElem.1 hm
  rw [List.length_take] at hj
  rw [List.getElem_take] at e
  obtain ⟨hi, e2⟩ := List.getElem?_eq_some_iff.1 hu
  have := List.pairwise_iff_getElem.1 h j i (by omega) hi (by omega)
  exact this (e.trans e2.symm)
theorem row_prefix {w : World} {a : Option Addr} {n i : Nat} {xs : List Int} (h : Row w a n xs) (hi : i ≤ n) : Row w a i (xs.take i) := by
  obtain ⟨h1, h2, h3⟩ := h
  refine ⟨by rw [List.length_take]; omega, by omega, ?_⟩
  rcases h3 with h3 | ⟨b, off, e, hc⟩
  · exact Or.inl (by omega)
  · refine Or.inr ⟨b, off, e, fun q hq => ?_⟩
    rw [hc q (by omega)]
    simp only [List.getD, List.getElem?_take_of_lt hq]
section
variable {FB : World → Nat → (Nat → Prop) → FT → Prop}
set_option maxHeartbeats 16000000 in
set_option maxRecDepth 100000 in
theorem ring9_few (hC : FC FB) (a : Option Addr) (len cap : Nat) (As : List A9) (na : Option Addr) (nn ncap : Nat) (names : List Int) (w : World) (row : ARow9 w a len As) (nrow : Row w na nn names) (hns9 : Rgs names) :
    Calls Try.prog 4 #[.slice a len cap, .slice na nn ncap] w fun e w' => e = .returned (.bool true) ∧ Below w.heap.size w w' := by
  have HFits := Lib.hid (fits9_any a len cap As w row)
  have HAlive := Lib.hid (alive9_any hC)
  have HRow := Lib.hid row
  have HNr := Lib.hid nrow
  have HRn := Lib.hid hns9
  have hbig := row.2.1
  have hnbig := nrow.2.1
  have HNl := Lib.hid nrow.1
  have HNew := Lib.hid (hC.new w)
  clear row nrow hns9
  go_enter Try.func4, Try.ntmps4
  go_wp2_with fail
  refine HFits.out.mono ?_
  rintro e w1 ⟨fb, rfl, hfit, rfl⟩
  have HFit := Lib.hid hfit
  clear hfit HFits
  cases fb with
  | false =>
    go_wp2_with fail
    refine (HAlive.out _).mono ?_
    rintro e w2 ⟨rfl, hb⟩
    have HB := Lib.hid hb
    clear hb
    go_wp2
    go_ret
    exact ⟨rfl, HB.out⟩
  | true =>
    by_cases hnn : 80 < nn
    · have n1 : (80 : Int) < (nn : Int) := by omega
      go_wp2_with fail
      refine (HAlive.out _).mono ?_
      rintro e w2 ⟨rfl, hb⟩
      have HB := Lib.hid hb
      clear hb
      go_wp2
      go_ret
      exact ⟨rfl, HB.out⟩
    · have n1 : ¬ (80 : Int) < (nn : Int) := by omega
      obtain ⟨hlen, hall⟩ := HFit.out rfl
      have HAll := Lib.hid hall
      clear hall HFit
      go_wp2_with fail
      refine HNew.out.mono ?_
      rintro e w2 ⟨gp, Fp0, rfl, hf, hF, hb⟩
      have HD0 := Lib.hid (Duo9.new hC hf hF hb)
      obtain ⟨gr, hgr⟩ : ∃ gr, gr = w2.heap.size := ⟨_, rfl⟩
      clear hf hF hb HNew
      go_upto_region 6 with fail
      refine fin (fun W => ∃ Fq0, Duo9 FB w W gp gr Fp0 Fq0 [] []) ⟨_, by rw [hgr]; exact HD0.out⟩ ?_
      rw [← hgr]
      clear HD0 hgr
      rintro W0 hd0
      have HD0 := Lib.hid hd0
      clear hd0
      go_wp2
      go_loopw [8] (fun i wr => ∃ j : Nat, j ≤ len ∧ i = .int .i64 j ∧ ∃ Fp Fq, Duo9 FB w wr gp gr Fp Fq (LLs As j) (LLs As j)) (fun i _ => len - (ivl i).toNat)
      case atStart =>
        obtain ⟨Fq0, hd⟩ := HD0.out
        exact ⟨0, by omega, rfl, Fp0, Fq0, hd⟩
      case round =>
        clear HD0
        obtain ⟨j, hj, rfl, Fp, Fq, hd⟩ := hrel
        have HD := Lib.hid hd
        have hgw : gr < wr.heap.size := hd.q.inH
        obtain ⟨hWj, hLj⟩ := LLs_ok As j
        have HWj := Lib.hid hWj
        clear hd hWj
        by_cases hlt : j < len
        · obtain ⟨b, off, x, rfl, hx, hr, hok⟩ := (HRow.out.keep HD.out.low).at_ hlt
          have cx0 : wr.cell? ⟨b, off + j * 2, none⟩ = some (.int .u8 x.k) := hr 0 _ rfl
          have cx1 : wr.cell? ⟨b, off + j * 2 + 1, none⟩ = some (.slice x.a x.n x.cap) := hr 1 _ rfl
          have hbl := World.block_lt_of_cell? _ _ cx0
          have hxn := HAll.out x (List.mem_of_getElem? hx)
          obtain ⟨b', off', x', e', hx', _, hok'⟩ := HRow.out.at_ hlt
          have exx : x' = x := by rw [hx] at hx'; injection hx' with q; exact q.symm
          subst exx
          have HSt := Lib.hid (step9_any hC HD.out HWj.out (by omega) x'.k hok'.1 hok'.2.1 x'.a x'.n x'.cap x'.xs hok'.2.2.1 (by omega) hok'.2.2.2)
          rw [← LLs_succ hx] at HSt
          have k0 : (0 : Int) ≤ (j : Int) := by omega
          have k1 : (j : Int) < (len : Int) := by omega
          obtain ⟨xk, hxk⟩ : ∃ xk, xk = x'.k := ⟨_, rfl⟩
          obtain ⟨xa, hxa⟩ : ∃ xa, xa = x'.a := ⟨_, rfl⟩
          obtain ⟨xn, hxnn⟩ : ∃ xn, xn = x'.n := ⟨_, rfl⟩
          obtain ⟨xc, hxc⟩ : ∃ xc, xc = x'.cap := ⟨_, rfl⟩
          rw [← hxk] at cx0 HSt
          rw [← hxa, ← hxnn, ← hxc] at cx1 HSt
          clear hx hr hok hok' hx' hxk hxa hxnn hxc hxn e'
          go_wp2_with fail
          refine HSt.out.mono ?_
          rintro e w3 ⟨rfl, Fp1, Fq1, hd⟩
          have HD1 := Lib.hid hd
          clear hd HSt HD cx0 cx1 hbl hgw
          go_wp2
          go_roundw
          case rel => exact ⟨j + 1, by omega, by go_num, Fp1, Fq1, HD1.out⟩
          case measure => simp [ivl] <;> omega
        · obtain rfl : j = len := by omega
          have jx : ¬ (j : Int) < (j : Int) := by omega
          obtain ⟨M, hM⟩ : ∃ M, M = LLs As j := ⟨_, rfl⟩
          rw [← hM] at HD HWj hLj
          have HU := Lib.hid (hC.under wr gp Fp M na nn ncap names HWj.out (by omega) HD.out.p (by omega) (row_keep HNr.out HD.out.low) (aw_old HNr.out HD.out.np) HRn.out)
          have HFB := Lib.hid HD.out.p
          have HBw := Lib.hid HD.out.low
          have hul := undL_len HWj.out names
          rw [HNl.out] at hul
          obtain ⟨U, hUe⟩ : ∃ U, U = undL M names := ⟨_, rfl⟩
          rw [← hUe] at HU hul
          have HUe := Lib.hid hUe
          clear hM hUe HD hgw HRow HAll
          go_wp2_with fail
          refine HU.out.mono ?_
          rintro e wu ⟨v, rfl, hlr, hcap, hb⟩
          obtain ⟨ua, ucap, hv, hr⟩ := lres_row hlr
          subst hv
          have hcap2 : U.length ≤ ucap := by
            obtain ⟨a9, n9, c9, e9, h9⟩ := hcap
            injection e9 with _ q2 q3
            omega
          clear hcap
          obtain ⟨n, hn⟩ : ∃ n, n = U.length := ⟨_, rfl⟩
          rw [← hn] at hcap2
          rw [← hn] at hr hul ⊢
          have HUr := Lib.hid hr
          have hubig := hr.2.1
          have HUn := Lib.hid hn
          replace HFB := Lib.hid (hC.keep HFB.out hb)
          replace HBw := Lib.hid (bthen HBw.out hb)
          have HNu := Lib.hid (row_keep HNr.out HBw.out)
          clear hlr hr hb hn HU
          go_wp2
          go_loopw [10, 11, 12, 13, 14, 15, 16, 17, 18, 19] (fun i _ _ _ _ _ _ _ _ _ wx => ∃ q : Nat, q ≤ n ∧ i = .int .i64 q ∧ Below wu.heap.size wu wx) (fun i _ _ _ _ _ _ _ _ _ _ => n - (ivl i).toNat)
          case atStart => exact ⟨0, by omega, rfl, Below.refl _ _⟩
          case round =>
            obtain ⟨q, hq, rfl, hbx⟩ := hrel
            have HBx := Lib.hid hbx
            have HUx := Lib.hid (row_keep HUr.out hbx)
            have HNx := Lib.hid (row_keep HNu.out hbx)
            have HFx := Lib.hid (hC.keep HFB.out hbx)
            clear hbx
            by_cases hqn : q < n
            · obtain ⟨b, off, u, rfl, hu, cu⟩ := row_at HUx.out hqn
              have hbl := World.block_lt_of_cell? _ _ cu
              have hum : u ∈ undL M names := by rw [← HUe.out]; exact List.mem_of_getElem? hu
              have HUm := Lib.hid hum
              have HRu : Hid (Rg u) := Lib.hid (und_rng HWj.out (hC.rng _ _ _ _ HFx.out) HRn.out hum)
              have HSelf : Hid (decide (u ∈ abv M u) = false) := Lib.hid (decide_eq_false (no_ring HWj.out u))
              have HIn := Lib.hid (und_in HWj.out hum)
              have HOnce : Hid (decide (u ∈ U.take q) = false) := Lib.hid (decide_eq_false (nod_take (by rw [HUe.out]; exact undL_nod HWj.out names) hu))
              have k0 : (0 : Int) ≤ (q : Int) := by omega
              have k1 : (q : Int) < (n : Int) := by omega
              have HA := Lib.hid (hC.above wr gp Fp M u HWj.out (by omega) HFx.out HRu.out)
              have hal := abv_len HWj.out u
              obtain ⟨A, hA⟩ : ∃ A, A = abv M u := ⟨_, rfl⟩
              rw [← hA] at HA HSelf HIn hal
              clear hu hum hA
              go_wp2_with fail
              refine HA.out.mono ?_
              rintro e w5 ⟨v, rfl, hlr, hb⟩
              obtain ⟨aa, acap, hv, hr⟩ := lres_row hlr
              subst hv
              obtain ⟨m, hm⟩ : ∃ m, m = A.length := ⟨_, rfl⟩
              rw [← hm] at hr hal HIn ⊢
              have HAr := Lib.hid hr
              have habig := hr.2.1
              replace HBx := Lib.hid (bthen HBx.out hb)
              replace HUx := Lib.hid (row_keep HUx.out hb)
              replace HNx := Lib.hid (row_keep HNx.out hb)
              replace HFx := Lib.hid (hC.keep HFx.out hb)
              replace cu := cell_keep cu hb
              have hbl5 := World.block_lt_of_cell? _ _ cu
              have HMm := Lib.hid hm
              clear hlr hr hb HA hbl hm
              -- self
              have HH1 := Lib.hid (plhas_any aa m acap A u w5 HAr.out)
              rw [HSelf.out] at HH1
              go_wp2_with fail
              refine HH1.out.mono ?_
              rintro e w6 ⟨rfl, rfl⟩
              clear HH1
              have HH2 := Lib.hid (plhas_any na nn ncap names u w5 HNx.out)
              obtain ⟨i0, hi0⟩ : ∃ i0, i0 = decide (u ∈ names) := ⟨_, rfl⟩
              rw [← hi0] at HH2 HIn
              clear hi0
              go_wp2_with fail
              refine HH2.out.mono ?_
              rintro e w6 ⟨rfl, rfl⟩
              clear HH2
              go_wp2
              go_loopw [13, 14, 15] (fun v13 i _ wy => ∃ j2 : Nat, j2 ≤ m ∧ i = .int .i64 j2 ∧ v13 = .bool (i0 || anyT names A j2) ∧ wy = w5) (fun _ i _ _ => m - (ivl i).toNat)
              case atStart => exact ⟨0, by omega, rfl, by unfold anyT; simp, rfl⟩
              case round =>
                obtain ⟨j2, hj2, rfl, rfl, rfl⟩ := hrel
                obtain ⟨tb, htb⟩ : ∃ tb, tb = (i0 || anyT names A j2) := ⟨_, rfl⟩
                rw [← htb]
                by_cases hjl : j2 < m
                · obtain ⟨b3, off3, y, rfl, hy, cy⟩ := row_at HAr.out hjl
                  have hbl3 := World.block_lt_of_cell? _ _ cy
                  have j0 : (0 : Int) ≤ (j2 : Int) := by omega
                  have j1 : (j2 : Int) < (m : Int) := by omega
                  have HH := Lib.hid (plhas_any na nn ncap names y _ HNx.out)
                  obtain ⟨hb, hhb⟩ : ∃ hb, hb = decide (y ∈ names) := ⟨_, rfl⟩
                  rw [← hhb] at HH
                  have HSt : Hid ((i0 || anyT names A (j2 + 1)) = (tb || hb)) := Lib.hid (by rw [anyT_step hy, htb, hhb, Bool.or_assoc])
                  clear hy hhb htb
                  go_wp2_with fail
                  refine HH.out.mono ?_
                  rintro e w6 ⟨rfl, rfl⟩
                  cases tb with
                  | false =>
                    go_wp2
                    go_roundw
                    case rel => exact ⟨j2 + 1, by omega, by go_num, by rw [HSt.out]; rfl, by trivial⟩
                    case measure => simp [ivl] <;> omega
                  | true =>
                    go_wp2
                    go_roundw
                    case rel => exact ⟨j2 + 1, by omega, by go_num, by rw [HSt.out]; rfl, by trivial⟩
                    case measure => simp [ivl] <;> omega
                · obtain rfl : j2 = m := by omega
                  have etb : tb = true := by rw [htb]; exact HIn.out
                  subst etb
                  have jy : ¬ (j2 : Int) < (j2 : Int) := by omega
                  clear htb
                  have HHq : Hid (∀ nq c, Calls Try.prog 22 #[.slice (some ⟨b, off, none⟩) q c, .int .i64 u] (wr.drewN nq) fun e w' => e = .returned (.bool false) ∧ w' = wr.drewN nq) := Lib.hid (fun nq c => by
                    have h9 := plhas_any (some ⟨b, off, none⟩) q c (U.take q) u (wr.drewN nq) (row_keep (row_prefix HUx.out (Nat.le_of_lt hqn)) (Go.below_drewN (Below.refl _ _) nq))
                    rw [HOnce.out] at h9
                    exact h9.mono fun _ _ z => ⟨z.1, z.2.symm⟩)
                  have kc : (q : Int) ≤ (ucap : Int) := by omega
                  go_wp2
                  go_quiet (first | (go_at_call 22; refine Calls.quiet_of_same (HHq.out _ _)))
                  refine fin (fun W => Row W (some ⟨b, off, none⟩) n U ∧ FB W gp Fp M ∧ Below wu.heap.size wu W ∧ W.cell? ⟨b, off + q, none⟩ = some (.int .i64 u) ∧ b < W.heap.size) ⟨row_keep HUx.out (Go.below_drewN (Below.refl _ _) nq), hC.keep HFx.out (Go.below_drewN (Below.refl _ _) nq), Go.below_drewN HBx.out nq, cell_keep cu (Go.below_drewN (Below.refl _ _) nq), hbl5⟩ ?_
                  clear HHq HUx HNx HFx HBx cu hbl5 HAr
                  rintro W ⟨hux, hfx, hbx, cu, hbl⟩
                  have HUx := Lib.hid hux
                  have HBx := Lib.hid hbx
                  have HCh := Lib.hid (hC.children W gp Fp M u HWj.out (by omega) hfx HRu.out)
                  have HChl := Lib.hid (chF_len M u)
                  obtain ⟨C, hCC⟩ : ∃ C, C = chF M u := ⟨_, rfl⟩
                  rw [← hCC] at HCh HChl
                  have HCm : Hid (∀ y ∈ C, decide (y ∈ U) = true) := Lib.hid (fun y hy => decide_eq_true (by rw [HUe.out]; exact und_child HWj.out HUm.out (by rw [← hCC]; exact hy)))
                  clear hux hfx hbx hCC
                  go_wp2_with fail
                  refine HCh.out.mono ?_
                  rintro e w7 ⟨v, rfl, hlr, hb⟩
                  obtain ⟨ca9, ccap9, hv, hr⟩ := lres_row hlr
                  subst hv
                  obtain ⟨mc, hmc⟩ : ∃ mc, mc = C.length := ⟨_, rfl⟩
                  rw [← hmc] at hr ⊢
                  have HCr := Lib.hid hr
                  have hcbig := hr.2.1
                  replace HUx := Lib.hid (row_keep HUx.out hb)
                  replace HBx := Lib.hid (bthen HBx.out hb)
                  clear hlr hr hb HCh hmc cu hbl
                  go_wp2
                  go_loopw [18, 19] (fun i _ wy => ∃ j3 : Nat, j3 ≤ mc ∧ i = .int .i64 j3 ∧ wy = w7) (fun i _ _ => mc - (ivl i).toNat)
                  case atStart => exact ⟨0, by omega, rfl, rfl⟩
                  case round =>
                    obtain ⟨j3, hj3, rfl, rfl⟩ := hrel
                    by_cases hjc : j3 < mc
                    · obtain ⟨b4, off4, y, rfl, hy, cy⟩ := row_at HCr.out hjc
                      have hbl4 := World.block_lt_of_cell? _ _ cy
                      have j0 : (0 : Int) ≤ (j3 : Int) := by omega
                      have j1 : (j3 : Int) < (mc : Int) := by omega
                      have HH := Lib.hid (plhas_any (some ⟨b, off, none⟩) n ucap U y _ HUx.out)
                      rw [HCm.out y (List.mem_of_getElem? hy)] at HH
                      clear hy
                      go_wp2_with fail
                      refine HH.out.mono ?_
                      rintro e w8 ⟨rfl, rfl⟩
                      go_wp2
                      go_roundw
                      case rel => exact ⟨j3 + 1, by omega, by go_num, by trivial⟩
                      case measure => simp [ivl] <;> omega
                    · obtain rfl : j3 = mc := by omega
                      have jz : ¬ (j3 : Int) < (j3 : Int) := by omega
                      go_wp2
                      go_roundw
                      case rel => exact ⟨q + 1, by omega, by go_num, HBx.out⟩
                      case measure => simp [ivl] <;> omega
            · obtain rfl : q = n := by omega
              have jy : ¬ (q : Int) < (q : Int) := by omega
              have HNm : Hid (∀ y ∈ names, decide (y ∈ U) = true) := Lib.hid (fun y hy => decide_eq_true (by rw [HUe.out]; exact und_name HWj.out hy))
              go_wp2
              go_loopw [20, 21] (fun i _ wy => ∃ j3 : Nat, j3 ≤ nn ∧ i = .int .i64 j3 ∧ wy = wr) (fun i _ _ => nn - (ivl i).toNat)
              case atStart => exact ⟨0, by omega, rfl, rfl⟩
              case round =>
                obtain ⟨j3, hj3, rfl, rfl⟩ := hrel
                by_cases hjc : j3 < nn
                · obtain ⟨b4, off4, y, rfl, hy, cy⟩ := row_at HNx.out hjc
                  have hbl4 := World.block_lt_of_cell? _ _ cy
                  have j0 : (0 : Int) ≤ (j3 : Int) := by omega
                  have j1 : (j3 : Int) < (nn : Int) := by omega
                  have HH := Lib.hid (plhas_any ua q ucap U y _ HUx.out)
                  rw [HNm.out y (List.mem_of_getElem? hy)] at HH
                  clear hy
                  go_wp2_with fail
                  refine HH.out.mono ?_
                  rintro e w8 ⟨rfl, rfl⟩
                  go_wp2
                  go_roundw
                  case rel => exact ⟨j3 + 1, by omega, by go_num, by trivial⟩
                  case measure => simp [ivl] <;> omega
                · obtain rfl : j3 = nn := by omega
                  have jz : ¬ (j3 : Int) < (j3 : Int) := by omega
                  go_wp2_with fail
                  refine (HAlive.out _).mono ?_
                  rintro e w8 ⟨rfl, hb⟩
                  have HB8 := Lib.hid (bthen HBw.out (bthen HBx.out hb))
                  clear hb
                  go_wp2
                  go_ret
                  exact ⟨rfl, HB8.out⟩
end
end Go.Proofs.Ytbddpbfkobdhoaa
