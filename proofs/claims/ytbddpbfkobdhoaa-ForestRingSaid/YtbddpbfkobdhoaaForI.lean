/-
  ForestPlays for any package that answers as the bundles say: the walk.
-/
import Derived.Test.YtbddpbfkobdhoaaMFof
namespace Go.Proofs.Ytbddpbfkobdhoaa
open Go.RowKit

/-- what the document says of no forest (the answers that the law ForestPlays holds) -/
structure FN : Prop where
  parent : ∀ w : World, Calls Try.prog 9 #[.pointer none, .int .i64 1] w fun e w' => ∃ x, e = .returned (.tuple #[.int .i64 x, .bool false]) ∧ Below w.heap.size w w'
  set : ∀ w : World, Calls Try.prog 19 #[.pointer none, .int .i64 1, .int .i64 2] w fun e w' => e = .returned (.int .i64 1) ∧ Below w.heap.size w w'
  free : ∀ (w : World) (a : Option Addr) (n cap : Nat) (xs : List Int), Row w a n xs → Calls Try.prog 20 #[.pointer none, .slice a n cap] w fun e w' => e = .returned (.int .i64 0) ∧ Below w.heap.size w w'
  depth : ∀ w : World, Calls Try.prog 18 #[.pointer none, .int .i64 1] w fun e w' => e = .returned (.int .i64 0) ∧ Below w.heap.size w w'
  drop : ∀ w : World, Calls Try.prog 21 #[.pointer none, .int .i64 1] w fun e w' => ∃ a cap, e = .returned (.slice a 0 cap) ∧ Below w.heap.size w w'
  children : ∀ w : World, Calls Try.prog 12 #[.pointer none, .int .i64 1] w fun e w' => ∃ a cap, e = .returned (.slice a 0 cap) ∧ Below w.heap.size w w'
  above : ∀ w : World, Calls Try.prog 14 #[.pointer none, .int .i64 1] w fun e w' => ∃ a cap, e = .returned (.slice a 0 cap) ∧ Below w.heap.size w w'
  under : ∀ (w : World) (a : Option Addr) (n cap : Nat) (xs : List Int), Row w a n xs → Calls Try.prog 16 #[.pointer none, .slice a n cap] w fun e w' => ∃ a cap, e = .returned (.slice a 0 cap) ∧ Below w.heap.size w w'
/-- behind so many acts -/
def LLs (As : List A9) (j : Nat) : FT := (As.take j).foldl (fun L x => doF L x.k x.xs) []
theorem LLs_succ {As : List A9} {j : Nat} {x : A9} (h : As[j]? = some x) : LLs As (j + 1) = doF (LLs As j) x.k x.xs := by
  unfold LLs
  rw [List.take_add_one, h, List.foldl_append]
  rfl
theorem LLs_ok (As : List A9) : ∀ j, WF (LLs As j) ∧ (LLs As j).length ≤ j
  | 0 => ⟨WF.nil, Nat.le_refl _⟩
  | j + 1 => by
    obtain ⟨h1, h2⟩ := LLs_ok As j
    cases hx : As[j]? with
    | some x =>
      rw [LLs_succ hx]
      exact ⟨h1.does _ _, Nat.le_trans (do_len _ _ _) (by omega)⟩
    | none =>
      have e : LLs As (j + 1) = LLs As j := by unfold LLs; rw [List.take_add_one, hx]; simp
      rw [e]
      exact ⟨h1, by omega⟩
section
variable {FB : World → Nat → (Nat → Prop) → FT → Prop}
/-- both new -/
theorem Duo9.new (hC : FC FB) {w w1 : World} {gp : Nat} {Fp : Nat → Prop} (h : FB w1 gp Fp []) (hF : ∀ b, Fp b → w.heap.size ≤ b) (hb : Below w.heap.size w w1) :
    Duo9 FB w (w1.alloc (.cells #[.slice none 0 0] 32)) gp w1.heap.size Fp (footF w1.heap.size (.slice none 0 0)) [] [] := by
  have hal : Below w1.heap.size w1 (w1.alloc (.cells #[.slice none 0 0] 32)) := alloc_below _ _
  refine ⟨hC.keep h hal, ⟨.slice none 0 0, ⟨Blk.new w1 _ _, ColX.nil _ _ _ _, fun e => by cases e⟩, fun _ => Iff.rfl⟩, fun b hp hq => ?_, bthen hb hal, hF, fun b hq => ?_⟩
  · have := hC.inb w1 gp Fp [] h b hp
    rcases hq with e | e
    · omega
    · cases e
  · rcases hq with e | e
    · rw [e]; exact hb.size
    · cases e
/-- a list of each side, and both are the same -/
theorem lres_row {w w' : World} {xs : List Int} {v : Value} (h : LRes w w' xs v) : ∃ a cap, v = .slice a xs.length cap ∧ Row w' a xs.length xs := by
  obtain ⟨a, cap, e, hr, _⟩ := h
  exact ⟨a, cap, e, hr⟩
set_option maxHeartbeats 16000000 in
set_option maxRecDepth 100000 in
theorem plays9_few (hC : FC FB) (hN : FN) (a : Option Addr) (len cap : Nat) (As : List A9) (id : Int) (na : Option Addr) (nn ncap : Nat) (names : List Int) (w : World) (row : ARow9 w a len As) (nrow : Row w na nn names) (hid9 : Rg id) (hns9 : Rgs names) :
    Calls Try.prog 3 #[.slice a len cap, .int .i64 id, .slice na nn ncap] w fun e w' => e = .returned (.bool true) ∧ Below w.heap.size w w' := by
  have HFits := Lib.hid (fits9_any a len cap As w row)
  have HAlive := Lib.hid (alive9_any hC)
  have HRow := Lib.hid row
  have HNr := Lib.hid nrow
  have HRi := Lib.hid hid9
  have HRn := Lib.hid hns9
  have hbig := row.2.1
  have hnbig := nrow.2.1
  have HNew := Lib.hid (hC.new w)
  have HPs : Hid (∀ u a b n m cap cap' (zs : List Int), Row u a n zs → Row u b m zs → Calls Try.prog 11 #[.slice a n cap, .slice b m cap'] u fun e w' => e = .returned (.bool true) ∧ Below u.heap.size u w') := Lib.hid (fun u a b n m cap cap' zs r1 r2 => (psame_any a b n m cap cap' zs zs u r1 r2).mono fun _ _ q => ⟨by rw [q.1]; simp, q.2⟩)
  clear row nrow hid9 hns9
  go_enter Try.func3, Try.ntmps3
  go_wp2_with fail
  refine HFits.out.mono ?_
  rintro e w1 ⟨fb, rfl, hfit, rfl⟩
  have HFit := Lib.hid hfit
  clear hfit HFits
  cases fb with
  | false =>
    go_wp2_with fail
    refine (HAlive.out _).mono ?_
    rintro e w2 ⟨rfl, hb⟩
    have HB := Lib.hid hb
    clear hb
    go_wp2
    go_ret
    exact ⟨rfl, HB.out⟩
  | true =>
    by_cases hnn : 80 < nn
    · have n1 : (80 : Int) < (nn : Int) := by omega
      go_wp2_with fail
      refine (HAlive.out _).mono ?_
      rintro e w2 ⟨rfl, hb⟩
      have HB := Lib.hid hb
      clear hb
      go_wp2
      go_ret
      exact ⟨rfl, HB.out⟩
    · have n1 : ¬ (80 : Int) < (nn : Int) := by omega
      obtain ⟨hlen, hall⟩ := HFit.out rfl
      have HAll := Lib.hid hall
      clear hall HFit
      go_wp2_with fail
      refine HNew.out.mono ?_
      rintro e w2 ⟨gp, Fp0, rfl, hf, hF, hb⟩
      have HD0 := Lib.hid (Duo9.new hC hf hF hb)
      obtain ⟨gr, hgr⟩ : ∃ gr, gr = w2.heap.size := ⟨_, rfl⟩
      clear hf hF hb HNew
      go_upto_region 6 with fail
      refine fin (fun W => ∃ Fq0, Duo9 FB w W gp gr Fp0 Fq0 [] []) ⟨_, by rw [hgr]; exact HD0.out⟩ ?_
      rw [← hgr]
      clear HD0 hgr
      rintro W0 hd0
      have HD0 := Lib.hid hd0
      clear hd0
      go_wp2
      go_loopw [10, 11, 12, 13, 14, 15, 16, 17, 18] (fun i _ _ _ _ _ _ _ _ wr => ∃ j : Nat, j ≤ len ∧ i = .int .i64 j ∧ ∃ Fp Fq, Duo9 FB w wr gp gr Fp Fq (LLs As j) (LLs As j)) (fun i _ _ _ _ _ _ _ _ _ => len - (ivl i).toNat)
      case atStart =>
        obtain ⟨Fq0, hd⟩ := HD0.out
        exact ⟨0, by omega, rfl, Fp0, Fq0, hd⟩
      case round =>
        clear HD0
        obtain ⟨j, hj, rfl, Fp, Fq, hd⟩ := hrel
        have HD := Lib.hid hd
        have hgw : gr < wr.heap.size := hd.q.inH
        obtain ⟨hWj, hLj⟩ := LLs_ok As j
        have HWj := Lib.hid hWj
        clear hd hWj
        by_cases hlt : j < len
        · obtain ⟨b, off, x, rfl, hx, hr, hok⟩ := (HRow.out.keep HD.out.low).at_ hlt
          have cx0 : wr.cell? ⟨b, off + j * 2, none⟩ = some (.int .u8 x.k) := hr 0 _ rfl
          have cx1 : wr.cell? ⟨b, off + j * 2 + 1, none⟩ = some (.slice x.a x.n x.cap) := hr 1 _ rfl
          have hbl := World.block_lt_of_cell? _ _ cx0
          have hxn := HAll.out x (List.mem_of_getElem? hx)
          obtain ⟨b', off', x', e', hx', _, hok'⟩ := HRow.out.at_ hlt
          have exx : x' = x := by rw [hx] at hx'; injection hx' with q; exact q.symm
          subst exx
          have HSt := Lib.hid (step9_any hC HD.out HWj.out (by omega) x'.k hok'.1 hok'.2.1 x'.a x'.n x'.cap x'.xs hok'.2.2.1 (by omega) hok'.2.2.2)
          rw [← LLs_succ hx] at HSt
          obtain ⟨hW1, hL1⟩ := LLs_ok As (j + 1)
          obtain ⟨M, hM⟩ : ∃ M, M = LLs As (j + 1) := ⟨_, rfl⟩
          rw [← hM] at HSt hW1 hL1
          have HM := Lib.hid hM
          have HW1 := Lib.hid hW1
          have k0 : (0 : Int) ≤ (j : Int) := by omega
          have k1 : (j : Int) < (len : Int) := by omega
          obtain ⟨xk, hxk⟩ : ∃ xk, xk = x'.k := ⟨_, rfl⟩
          obtain ⟨xa, hxa⟩ : ∃ xa, xa = x'.a := ⟨_, rfl⟩
          obtain ⟨xn, hxnn⟩ : ∃ xn, xn = x'.n := ⟨_, rfl⟩
          obtain ⟨xc, hxc⟩ : ∃ xc, xc = x'.cap := ⟨_, rfl⟩
          rw [← hxk] at cx0 HSt
          rw [← hxa, ← hxnn, ← hxc] at cx1 HSt
          have HMl : Hid (M.length ≤ 500) := Lib.hid (by omega)
          clear hx hr hok hok' hx' hxk hxa hxnn hxc hW1 hM hxn e'
          go_wp2_with fail
          refine HSt.out.mono ?_
          rintro e w3 ⟨rfl, Fp1, Fq1, hd⟩
          have HD1 := Lib.hid hd
          have hg3 : gr < w3.heap.size := hd.q.inH
          clear hd HSt HD cx0 cx1 hbl hgw
          have hml := HMl.out
          -- the parent
          have HP1 := Lib.hid (hC.parent w3 gp Fp1 M id HW1.out (by omega) HD1.out.p HRi.out)
          obtain ⟨pv, hpv⟩ : ∃ pv, pv = parV (parO M id) := ⟨_, rfl⟩
          obtain ⟨pb, hpb⟩ : ∃ pb, pb = (parO M id).isSome := ⟨_, rfl⟩
          rw [← hpv, ← hpb] at HP1
          have HPV := Lib.hid (And.intro hpv hpb)
          clear hpv hpb
          go_wp2_with fail
          refine HP1.out.mono ?_
          rintro e w4 ⟨rfl, hb⟩
          replace HD1 := Lib.hid (HD1.out.keep hC hb)
          have hg4 : gr < w4.heap.size := HD1.out.q.inH
          clear hb HP1 hg3
          have HP2 : Hid (Calls Try.prog 10 #[.pointer (some ⟨gr, 0, none⟩), .int .i64 id] w4 fun e w' => e = .returned (.tuple #[.int .i64 pv, .bool pb]) ∧ w4 = w') := Lib.hid (by
            obtain ⟨v, h1, _⟩ := HD1.out.q
            have := rparent_any h1 id
            rwa [← HPV.out.1, ← HPV.out.2] at this)
          go_wp2_with fail
          refine HP2.out.mono ?_
          rintro e w5 ⟨rfl, rfl⟩
          clear HP2
          -- Children
          have HA1 := Lib.hid (hC.children w4 gp Fp1 M id HW1.out (by omega) HD1.out.p HRi.out)
          go_wp2_with fail
          refine HA1.out.mono ?_
          rintro e w5 ⟨v, rfl, hlr, hb⟩
          obtain ⟨va, vcap, hv, hr⟩ := lres_row hlr
          subst hv
          have HR1 := Lib.hid hr
          replace HD1 := Lib.hid (HD1.out.keep hC hb)
          have hg5 : gr < w5.heap.size := HD1.out.q.inH
          clear hlr hr hb HA1
          have HA2 : Hid (Calls Try.prog 13 #[.pointer (some ⟨gr, 0, none⟩), .int .i64 id] w5 fun e w' => ∃ v, e = .returned v ∧ LRes w5 w' (chF M id) v ∧ Below w5.heap.size w5 w') := Lib.hid (by
            obtain ⟨v, h1, _⟩ := HD1.out.q
            exact rchildren_any h1 (by omega) id)
          go_wp2_with fail
          refine HA2.out.mono ?_
          rintro e w6 ⟨v, rfl, hlr, hb⟩
          obtain ⟨ua, ucap, hv, hr⟩ := lres_row hlr
          subst hv
          have HS := Lib.hid (HPs.out w6 va ua _ _ vcap ucap _ (row_keep HR1.out hb) hr)
          replace HD1 := Lib.hid (HD1.out.keep hC hb)
          clear hlr hr hb HA2 HR1 hg5
          go_wp2_with fail
          refine HS.out.mono ?_
          rintro e w7 ⟨rfl, hb⟩
          replace HD1 := Lib.hid (HD1.out.keep hC hb)
          have hg7 : gr < w7.heap.size := HD1.out.q.inH
          clear hb HS
          -- Above
          have HA1 := Lib.hid (hC.above w7 gp Fp1 M id HW1.out (by omega) HD1.out.p HRi.out)
          go_wp2_with fail
          refine HA1.out.mono ?_
          rintro e w8 ⟨v, rfl, hlr, hb⟩
          obtain ⟨va, vcap, hv, hr⟩ := lres_row hlr
          subst hv
          have HR1 := Lib.hid hr
          replace HD1 := Lib.hid (HD1.out.keep hC hb)
          have hg8 : gr < w8.heap.size := HD1.out.q.inH
          clear hlr hr hb HA1
          have HA2 : Hid (Calls Try.prog 15 #[.pointer (some ⟨gr, 0, none⟩), .int .i64 id] w8 fun e w' => ∃ v, e = .returned v ∧ LRes w8 w' (abv M id) v ∧ Below w8.heap.size w8 w') := Lib.hid (by
            obtain ⟨v, h1, _⟩ := HD1.out.q
            exact rabove_any h1 HW1.out (by omega) id)
          go_wp2_with fail
          refine HA2.out.mono ?_
          rintro e w9 ⟨v, rfl, hlr, hb⟩
          obtain ⟨ua, ucap, hv, hr⟩ := lres_row hlr
          subst hv
          have HS := Lib.hid (HPs.out w9 va ua _ _ vcap ucap _ (row_keep HR1.out hb) hr)
          replace HD1 := Lib.hid (HD1.out.keep hC hb)
          clear hlr hr hb HA2 HR1 hg8
          go_wp2_with fail
          refine HS.out.mono ?_
          rintro e w10 ⟨rfl, hb⟩
          replace HD1 := Lib.hid (HD1.out.keep hC hb)
          have hg10 : gr < w10.heap.size := HD1.out.q.inH
          clear hb HS
          -- Under
          have HA1 := Lib.hid ((hC.under w10 gp Fp1 M na nn ncap names HW1.out (by omega) HD1.out.p (by omega) (row_keep HNr.out HD1.out.low) (aw_old HNr.out HD1.out.np) HRn.out).mono fun e w99 (q : ∃ v, e = .returned v ∧ LRes w10 w99 (undL M names) v ∧ CapOk v ∧ Below w10.heap.size w10 w99) => (show ∃ v, e = .returned v ∧ LRes w10 w99 (undL M names) v ∧ Below w10.heap.size w10 w99 from q.elim fun v h => ⟨v, h.1, h.2.1, h.2.2.2⟩))
          go_wp2_with fail
          refine HA1.out.mono ?_
          rintro e w11 ⟨v, rfl, hlr, hb⟩
          obtain ⟨va, vcap, hv, hr⟩ := lres_row hlr
          subst hv
          have HR1 := Lib.hid hr
          replace HD1 := Lib.hid (HD1.out.keep hC hb)
          have hg11 : gr < w11.heap.size := HD1.out.q.inH
          clear hlr hr hb HA1
          have HA2 : Hid (Calls Try.prog 17 #[.pointer (some ⟨gr, 0, none⟩), .slice na nn ncap] w11 fun e w' => ∃ v, e = .returned v ∧ LRes w11 w' (undL M names) v ∧ Below w11.heap.size w11 w') := Lib.hid (by
            obtain ⟨v, h1, _⟩ := HD1.out.q
            exact runder_any h1 HW1.out (by omega) na nn ncap names (row_keep HNr.out HD1.out.low) (by omega))
          go_wp2_with fail
          refine HA2.out.mono ?_
          rintro e w12 ⟨v, rfl, hlr, hb⟩
          obtain ⟨ua, ucap, hv, hr⟩ := lres_row hlr
          subst hv
          have HS := Lib.hid (HPs.out w12 va ua _ _ vcap ucap _ (row_keep HR1.out hb) hr)
          replace HD1 := Lib.hid (HD1.out.keep hC hb)
          clear hlr hr hb HA2 HR1 hg11
          go_wp2_with fail
          refine HS.out.mono ?_
          rintro e w13 ⟨rfl, hb⟩
          replace HD1 := Lib.hid (HD1.out.keep hC hb)
          have hg13 : gr < w13.heap.size := HD1.out.q.inH
          clear hb HS
          -- Depth
          have HA1 := Lib.hid (hC.depth w13 gp Fp1 M id HW1.out (by omega) HD1.out.p HRi.out)
          have hal := abv_len HW1.out id
          obtain ⟨dl, hdl⟩ : ∃ dl, dl = (abv M id).length := ⟨_, rfl⟩
          rw [← hdl] at HA1 hal
          have HDl := Lib.hid hdl
          clear hdl
          go_wp2_with fail
          refine HA1.out.mono ?_
          rintro e w14 ⟨rfl, hb⟩
          replace HD1 := Lib.hid (HD1.out.keep hC hb)
          have hg14 : gr < w14.heap.size := HD1.out.q.inH
          clear hb HA1 hg13
          have HA2 : Hid (Calls Try.prog 15 #[.pointer (some ⟨gr, 0, none⟩), .int .i64 id] w14 fun e w' => ∃ a cap, e = .returned (.slice a dl cap) ∧ Below w14.heap.size w14 w') := Lib.hid (by
            obtain ⟨v, h1, _⟩ := HD1.out.q
            refine (rabove_any h1 HW1.out (by omega) id).mono ?_
            rintro e w' ⟨v, rfl, ⟨aa, acap, hv, _⟩, hb⟩
            exact ⟨aa, acap, by rw [hv, HDl.out], hb⟩)
          go_wp2_with fail
          refine HA2.out.mono ?_
          rintro e w15 ⟨aa, acap, rfl, hb⟩
          replace HD1 := Lib.hid (HD1.out.keep hC hb)
          clear hb HA2
          go_wp2
          go_roundw
          case rel => exact ⟨j + 1, by omega, by go_num, Fp1, Fq1, by rw [← HM.out]; exact HD1.out⟩
          case measure => simp [ivl] <;> omega
        · obtain rfl : j = len := by omega
          have HB0 := Lib.hid HD.out.low
          have j1 : ¬ (j : Int) < (j : Int) := by omega
          clear HD HWj hLj hgw
          go_wp2_with fail
          refine (hN.parent _).mono ?_
          rintro e w3 ⟨px9, rfl, hb⟩
          have HB3 := Lib.hid (bthen HB0.out hb)
          clear hb HB0
          go_wp2_with fail
          refine (HAlive.out _).mono ?_
          rintro e w4 ⟨rfl, hb⟩
          have HB4 := Lib.hid (bthen HB3.out hb)
          clear hb HB3
          go_wp2_with fail
          refine (hN.set _).mono ?_
          rintro e w5 ⟨rfl, hb⟩
          have HB5 := Lib.hid (bthen HB4.out hb)
          clear hb HB4
          go_wp2_with fail
          refine (hN.free (w5.alloc (.cells #[.int .i64 1] 23)) _ 1 1 [1] (row1 w5 1 _)).mono ?_
          rintro e w6 ⟨rfl, hb⟩
          have HB6 := Lib.hid (bthen HB5.out (bthen (alloc_below _ _) hb))
          clear hb HB5
          go_wp2_with fail
          refine (hN.depth _).mono ?_
          rintro e w7 ⟨rfl, hb⟩
          have HB7 := Lib.hid (bthen HB6.out hb)
          clear hb HB6
          go_wp2_with fail
          refine (hN.drop _).mono ?_
          rintro e w8 ⟨da9, dcap9, rfl, hb⟩
          have HB8 := Lib.hid (bthen HB7.out hb)
          clear hb HB7
          go_wp2_with fail
          refine (hN.children _).mono ?_
          rintro e w9 ⟨ca9, ccap9, rfl, hb⟩
          have HB9 := Lib.hid (bthen HB8.out hb)
          clear hb HB8
          go_wp2_with fail
          refine (hN.above _).mono ?_
          rintro e w10 ⟨ba9, bcap9, rfl, hb⟩
          have HB10 := Lib.hid (bthen HB9.out hb)
          clear hb HB9
          go_wp2_with fail
          refine (hN.under (w10.alloc (.cells #[.int .i64 1] 23)) _ 1 1 [1] (row1 w10 1 _)).mono ?_
          rintro e w11 ⟨ea9, ecap9, rfl, hb⟩
          have HB11 := Lib.hid (bthen HB10.out (bthen (alloc_below _ _) hb))
          clear hb HB10
          go_wp2
          go_ret
          exact ⟨rfl, HB11.out⟩
end
end Go.Proofs.Ytbddpbfkobdhoaa
