/-
  3 texts in one file, each with its own heading.
-/
import Derived.Test.YtcpgkkphibhdfaaGreatStoY
import Derived.Test.YtcpgkkphibhdfaaGreatStoG
/-
  No store: what a program's methods answer at a nil pointer, as a bundle; the program's store and the reference's, both new.
-/
namespace Go.Proofs.YtcpgkkphibhdfaaGreat
open Go.RowKit

/-- what the document says of no store (the answers that the law StorePlays holds) -/
structure SN : Prop where
  spawn : ∀ w : World, Calls Tryz.prog 11 #[.pointer none, .agg Z24.toArray] w fun e w' => ∃ v, e = .returned (.tuple #[.int .i64 v, .int .i64 1]) ∧ Below w.heap.size w w'
  get : ∀ w : World, Calls Tryz.prog 12 #[.pointer none, .int .i64 0] w fun e w' => ∃ Y, e = .returned (.tuple #[.agg (List.toArray Y), .bool false]) ∧ PXs Y ∧ Below w.heap.size w w'
  all : ∀ w : World, Calls Tryz.prog 13 #[.pointer none] w fun e w' => ∃ a cap, e = .returned (.slice a 0 cap) ∧ Below w.heap.size w w'
  query : ∀ w : World, Calls Tryz.prog 14 #[.pointer none, .int .i64 0, .int .i64 0] w fun e w' => ∃ a cap, e = .returned (.slice a 0 cap) ∧ Below w.heap.size w w'
  changed : ∀ w : World, Calls Tryz.prog 15 #[.pointer none, .int .i64 0] w fun e w' => ∃ a cap, e = .returned (.slice a 0 cap) ∧ Below w.heap.size w w'
  gone : ∀ w : World, Calls Tryz.prog 16 #[.pointer none, .int .i64 0] w fun e w' => ∃ a cap, e = .returned (.slice a 0 cap) ∧ Below w.heap.size w w'
  tick : ∀ w : World, Calls Tryz.prog 17 #[.pointer none] w fun e w' => e = .returned (.int .i64 0) ∧ Below w.heap.size w w'
  next : ∀ w : World, Calls Tryz.prog 18 #[.pointer none] w fun e w' => e = .returned (.int .i64 0) ∧ Below w.heap.size w w'
  touch : ∀ (w : World) (a : Option Addr) (n cap : Nat) (xs : List Int), Row w a n xs → Calls Tryz.prog 19 #[.pointer none, .slice a n cap] w fun e w' => e = .returned (.int .i64 0) ∧ Below w.heap.size w w'
  despawn : ∀ w : World, Calls Tryz.prog 20 #[.pointer none, .int .i64 0] w fun e w' => e = .returned (.int .i64 1) ∧ Below w.heap.size w w'
  put : ∀ w : World, Calls Tryz.prog 21 #[.pointer none, .int .i64 0, .agg Z24.toArray, .slice none 0 0] w fun e w' => e = .returned (.int .i64 1) ∧ Below w.heap.size w w'
  cut : ∀ w : World, Calls Tryz.prog 22 #[.pointer none, .int .i64 0, .slice none 0 0] w fun e w' => e = .returned (.int .i64 1) ∧ Below w.heap.size w w'
section
variable {SB : World → Nat → (Nat → Prop) → St → Prop}
theorem Duo.new (hC : SC SB) {w0 w1 w2 : World} {gp gr : Nat} {Fp Fq : Nat → Prop} {S : St} (h1 : SB w1 gp Fp S) (f1 : ∀ b, Fp b → w0.heap.size ≤ b) (b1 : Below w0.heap.size w0 w1) (h2 : RB w2 gr Fq S) (f2 : ∀ b, Fq b → w1.heap.size ≤ b) (b2 : Below w1.heap.size w1 w2) : Duo SB w0 w2 gp gr Fp Fq S S :=
  ⟨hC.keep h1 b2, h2, fun b hb hq => by
    have c1 := hC.inb w1 gp Fp S h1 b hb
    have c2 := f2 b hq
    omega, bthen b1 b2, f1, fun b hb => Nat.le_trans b1.size (f2 b hb)⟩
end
end Go.Proofs.YtcpgkkphibhdfaaGreat
/-
  The walk of StorePlays of layer 8, for any package that answers as the bundles say.
-/
namespace Go.Proofs.YtcpgkkphibhdfaaGreat
open Go.RowKit

theorem two_box (w : World) (t1 t2 : TypeId) (a b c d : Value) : (((w.alloc (.cells #[a, b] t1)).alloc (.cells #[c, d] t2)).cell? ⟨w.heap.size, 0, none⟩ = some a ∧ ((w.alloc (.cells #[a, b] t1)).alloc (.cells #[c, d] t2)).cell? ⟨w.heap.size, 1, none⟩ = some b ∧ ((w.alloc (.cells #[a, b] t1)).alloc (.cells #[c, d] t2)).cell? ⟨w.heap.size + 1, 0, none⟩ = some c ∧ ((w.alloc (.cells #[a, b] t1)).alloc (.cells #[c, d] t2)).cell? ⟨w.heap.size + 1, 1, none⟩ = some d) ∧ Below w.heap.size w ((w.alloc (.cells #[a, b] t1)).alloc (.cells #[c, d] t2)) := by
  have k1 := Blk.keep (Blk.new w t1 #[a, b]) (alloc_below (w.alloc (.cells #[a, b] t1)) (.cells #[c, d] t2))
  have k2 := Blk.new (w.alloc (.cells #[a, b] t1)) t2 #[c, d]
  rw [show (w.alloc (.cells #[a, b] t1)).heap.size = w.heap.size + 1 from Array.size_push ..] at k2
  exact ⟨⟨k1.cell 0, k1.cell 1, k2.cell 0, k2.cell 1⟩, balloc (alloc_below _ _) _⟩
theorem ws_do {S : St} (h : WS S) (x : A8) : WS (doS S x) :=
  (Told.does (N := fun _ => True) (I := fun x P => inS S x P) (since := S.now - 1) ⟨h, by omega, fun _ _ c => Or.inl c, fun _ P c => Or.inl ⟨P, c⟩⟩ x).ws
section
variable {SB : World → Nat → (Nat → Prop) → St → Prop}
set_option maxHeartbeats 16000000 in
set_option maxRecDepth 100000 in
theorem plays8_yes (hC : SC SB) (a : Option Addr) (len cap : Nat) (xs : List A8) (r0 since sa sb : Int) (w : World) (row : ARow8 w a len xs) (hN : SN) :
    Calls Tryz.prog 3 #[.agg #[.int .i64 r0, .int .i64 since], .slice a len cap, .agg #[.int .i64 sa, .int .i64 sb]] w fun e w' => e = .returned (.bool true) ∧ Below w.heap.size w w' := by
  have hbig := row.2.1
  have HL := Lib.hid row.1
  have HRow := Lib.hid row
  have HCC := Lib.hid hC
  have HNN := Lib.hid hN
  clear row hC hN
  go_enter Tryz.func3, Tryz.ntmps3
  go_upto_region 1 with fail
  refine fin (fun W => (W.cell? ⟨w.heap.size, 0, none⟩ = some (.int .i64 r0) ∧ W.cell? ⟨w.heap.size, 1, none⟩ = some (.int .i64 since) ∧ W.cell? ⟨w.heap.size + 1, 0, none⟩ = some (.int .i64 sa) ∧ W.cell? ⟨w.heap.size + 1, 1, none⟩ = some (.int .i64 sb)) ∧ Below w.heap.size w W) (two_box w _ _ _ _ _ _) ?_
  rintro W ⟨hc, hb⟩
  have HF : Hid (∀ u, Below W.heap.size W u → u.cell? ⟨w.heap.size, 0, none⟩ = some (.int .i64 r0) ∧ u.cell? ⟨w.heap.size, 1, none⟩ = some (.int .i64 since) ∧ u.cell? ⟨w.heap.size + 1, 0, none⟩ = some (.int .i64 sa) ∧ u.cell? ⟨w.heap.size + 1, 1, none⟩ = some (.int .i64 sb)) := Lib.hid (fun u k => ⟨cell_keep hc.1 k, cell_keep hc.2.1 k, cell_keep hc.2.2.1 k, cell_keep hc.2.2.2 k⟩)
  have HW := Lib.hid hb
  replace HRow := Lib.hid (HRow.out.keep hb)
  clear hc hb
  go_wp2_with fail
  refine (fits8_any a len cap xs W HRow.out).mono ?_
  rintro e w1 ⟨ok, rfl, hok, rfl⟩
  have HOk := Lib.hid hok
  clear hok
  cases ok with
  | false =>
    go_wp2_with fail
    refine (alive8_any HCC.out _).mono ?_
    rintro e w2 ⟨rfl, b2⟩
    have HB := Lib.hid (bthen HW.out b2)
    clear b2
    go_wp2
    go_ret
    exact ⟨rfl, HB.out⟩
  | true =>
    obtain ⟨h80, hn80⟩ := HOk.out rfl
    have HN80 := Lib.hid hn80
    clear hn80 HOk
    obtain ⟨c1, c2, c3, c4⟩ := HF.out _ (Below.refl _ _)
    have l1 := World.block_lt_of_cell? _ _ c1
    by_cases hr : r0 < 0 ∨ 256 < r0
    · go_wp2_with fail
      refine (HCC.out.bad _ r0 hr).mono ?_
      rintro e w2 ⟨rfl, b2⟩
      clear c1 c2 c3 c4 l1
      obtain ⟨c1, c2, c3, c4⟩ := HF.out _ b2
      have l1 := World.block_lt_of_cell? _ _ c1
      have HB := Lib.hid (bthen HW.out b2)
      clear b2
      rcases hr with hr | hr
      · go_wp2_with fail
        refine (alive8_any HCC.out _).mono ?_
        rintro e w3 ⟨rfl, b2⟩
        replace HB := Lib.hid (bthen HB.out b2)
        clear b2
        go_wp2
        go_ret
        exact ⟨rfl, HB.out⟩
      · have hr' : ¬ r0 < 0 := by omega
        go_wp2_with fail
        refine (alive8_any HCC.out _).mono ?_
        rintro e w3 ⟨rfl, b2⟩
        replace HB := Lib.hid (bthen HB.out b2)
        clear b2
        go_wp2
        go_ret
        exact ⟨rfl, HB.out⟩
    · obtain ⟨r, rfl⟩ : ∃ r : Nat, r0 = r := ⟨r0.toNat, by omega⟩
      have hr1 : r ≤ 256 := by omega
      have hr2 : ¬ (r : Int) < 0 := by omega
      have hr3 : ¬ (256 : Int) < (r : Int) := by omega
      clear hr
      go_wp2_with fail
      refine (HCC.out.new _ r hr1).mono ?_
      rintro e w2 ⟨gp, Fp, rfl, sp, fp, b2⟩
      clear c1 c2 c3 c4 l1
      obtain ⟨c1, c2, c3, c4⟩ := HF.out _ b2
      have l1 := World.block_lt_of_cell? _ _ c1
      have HSp := Lib.hid (And.intro sp (And.intro fp b2))
      clear sp fp b2
      go_wp2_with fail
      refine (rnew8_any _ r).mono ?_
      rintro e w3 ⟨gr, Fq, rfl, rb, fq, b3⟩
      have HD0 := Lib.hid (Duo.new HCC.out HSp.out.1 HSp.out.2.1 HSp.out.2.2 rb fq b3)
      clear rb fq b3 HSp c1 c2 c3 c4 l1
      go_wp2
      go_loopw [11, 12, 13] (fun v11 _ _ wq => ∃ (j : Nat) (Fp Fq : Nat → Prop) (S : St), j ≤ len ∧ v11 = .int .i64 j ∧ WS S ∧ Bd S (2 * j) ∧ Duo SB W wq gp gr Fp Fq S S) (fun v11 _ _ _ => len - (intOf v11).toNat)
      case atStart => exact ⟨0, Fp, Fq, St0 r, by omega, rfl, ws_zero hr1, bd_zero hr1, HD0.out⟩
      case round =>
        clear HD0
        obtain ⟨j, Fp, Fq, S, hj, rfl, hws, hbd, hd⟩ := hrel
        have HD := Lib.hid hd
        have HWS := Lib.hid hws
        have HBd := Lib.hid hbd
        clear hd hws hbd
        by_cases hlt : j < len
        · have j0 : (0 : Int) ≤ (j : Int) := by omega
          have j1 : (j : Int) < (len : Int) := by omega
          have HRK := Lib.hid (HRow.out.keep HD.out.bel)
          obtain ⟨b, off, x, rfl, hx, hrx, -⟩ := HRK.out.at_ hlt
          have HOx : Hid (ok8 W x) := Lib.hid (by
            obtain ⟨b', off', x', e', hx', -, ho⟩ := HRow.out.at_ hlt
            rw [hx] at hx'
            injection hx' with hx'
            rw [hx']
            exact ho)
          have hxn : x.n ≤ 80 := HN80.out x (List.mem_of_getElem? hx)
          have HRx := Lib.hid hrx
          have HSz := Lib.hid (c8_size x)
          have hlb := World.block_lt_of_cell? _ _ (hrx 0 _ rfl)
          clear hx hrx
          go_wp2_with (refine wpList_load_mid rfl 47 (.tmp 67) rfl b (off + j * 29) rfl (c8 x) _ HRx.out Tryz.underlying47 rfl HSz.out ?_)
          refine (step8_any HCC.out HD.out HWS.out (HBd.out.mono (by omega)) x HOx.out hxn).mono ?_
          rintro e w4 ⟨rfl, Fp', Fq', hd⟩
          replace HD := Lib.hid hd
          replace HWS := Lib.hid (ws_do HWS.out x)
          replace HBd := Lib.hid (bd_do HBd.out x)
          clear hd hlb HRx
          obtain ⟨c1, c2, c3, c4⟩ := HF.out _ HD.out.bel
          have l1 := World.block_lt_of_cell? _ _ c1
          have l2 := World.block_lt_of_cell? _ _ c3
          go_wp2_with fail
          refine (same8_any HCC.out HD.out.sp HD.out.rb HWS.out (HBd.out.mono (by omega)) since sa sb).mono ?_
          rintro e w5 ⟨rfl, b5⟩
          replace HD := Lib.hid (HD.out.keep HCC.out b5)
          clear b5 c1 c2 c3 c4 l1 l2
          go_wp2
          go_roundw
          case rel => exact ⟨j + 1, Fp', Fq', doS S x, by omega, by go_num, HWS.out, HBd.out, HD.out⟩
          case measure => simp [intOf] <;> omega
        · obtain rfl : j = len := by omega
          have HB := Lib.hid (bthen HW.out HD.out.bel)
          clear HD HWS HBd
          go_wp2_with fail
          refine (HNN.out.spawn _).mono ?_
          rintro e w6 ⟨v, rfl, b6⟩
          replace HB := Lib.hid (bthen HB.out b6)
          clear b6
          go_wp2_with fail
          refine (HNN.out.get _).mono ?_
          rintro e w7 ⟨Y, rfl, hpx, b6⟩
          have HPX := Lib.hid hpx
          clear hpx
          replace HB := Lib.hid (bthen HB.out b6)
          clear b6
          have HT17 : Hid ((w7.alloc (.cells Z24.toArray 44)).there w7.heap.size 0 Y.toArray.size) := Lib.hid (blk_there (Blk.new w7 44 Z24.toArray) (by rw [List.size_toArray, HPX.out.1]; exact Nat.le_refl 24))
          have HBl : Hid (Below w.heap.size w ((w7.alloc (.cells Z24.toArray 44)).setCells w7.heap.size 0 Y)) := Lib.hid (bthen HB.out (below_setCells Y (alloc_below _ _) (Nat.le_refl _)))
          go_upto_region 20 with (refine wpList_store_mid rfl 44 (.tmp 17) (.tmp 91) rfl w7.heap.size 0 Y.toArray rfl rfl HT17.out HPX.out.2.2.1 HPX.out.2.2.2 ?_)
          refine fin (fun W => Below w.heap.size w W) HBl.out ?_
          clear HBl HT17 HPX HB
          intro W7 hb
          have HB := Lib.hid hb
          clear hb
          go_wp2_with fail
          refine (HNN.out.all _).mono ?_
          rintro e w8 ⟨a8, c8, rfl, b6⟩
          replace HB := Lib.hid (bthen HB.out b6)
          clear b6
          go_wp2_with fail
          refine (HNN.out.query _).mono ?_
          rintro e w9 ⟨a9, c9, rfl, b6⟩
          replace HB := Lib.hid (bthen HB.out b6)
          clear b6
          go_wp2_with fail
          refine (HNN.out.changed _).mono ?_
          rintro e w10 ⟨a10, c10, rfl, b6⟩
          replace HB := Lib.hid (bthen HB.out b6)
          clear b6
          go_wp2_with fail
          refine (HNN.out.gone _).mono ?_
          rintro e w11 ⟨a11, c11, rfl, b6⟩
          replace HB := Lib.hid (bthen HB.out b6)
          clear b6
          go_wp2_with fail
          refine (HNN.out.tick _).mono ?_
          rintro e w12 ⟨rfl, b6⟩
          replace HB := Lib.hid (bthen HB.out b6)
          clear b6
          go_wp2_with fail
          refine (HNN.out.next _).mono ?_
          rintro e w13 ⟨rfl, b6⟩
          replace HB := Lib.hid (bthen HB.out b6)
          clear b6
          replace HB := Lib.hid (balloc HB.out (.cells #[.int .i64 0] 35))
          go_wp2_with fail
          refine (HNN.out.touch _ _ _ _ [0] (row1 _ _ _)).mono ?_
          rintro e w14 ⟨rfl, b6⟩
          replace HB := Lib.hid (bthen HB.out b6)
          clear b6
          go_wp2_with fail
          refine (alive8_any HCC.out _).mono ?_
          rintro e w15 ⟨rfl, b6⟩
          replace HB := Lib.hid (bthen HB.out b6)
          clear b6
          go_wp2_with fail
          refine (HNN.out.despawn _).mono ?_
          rintro e w16 ⟨rfl, b6⟩
          replace HB := Lib.hid (bthen HB.out b6)
          clear b6
          go_wp2_with fail
          refine (HNN.out.put _).mono ?_
          rintro e w17 ⟨rfl, b6⟩
          replace HB := Lib.hid (bthen HB.out b6)
          clear b6
          go_wp2_with fail
          refine (HNN.out.cut _).mono ?_
          rintro e w18 ⟨rfl, b6⟩
          replace HB := Lib.hid (bthen HB.out b6)
          clear b6
          go_wp2
          go_ret
          exact ⟨rfl, HB.out⟩
end
end Go.Proofs.YtcpgkkphibhdfaaGreat
/-
  StorePlays for any package that answers as the bundles say: the arguments opened, the statement lifted.
-/
namespace Go.Proofs.YtcpgkkphibhdfaaGreat
open Go.ChangeShapes Go.WideShapes Go.ChangeAt Go.RowKit Go.Deep

section
variable {H : Type} {enc : TypeId × Value → H} {w : World} {base : Nat} {spare : Nat → Bool} {held : Bool}
set_option maxRecDepth 100000 in
theorem open_two {t e : TypeId} (ht : Tryz.prog.underlying t = some (.array 2 e)) (he : Tryz.prog.underlying e = some (.int .i64)) (hc : Tryz.prog.cellsOf e = 1) (hc2 : Tryz.prog.cellsOf t = 2) {r : Reach} {b0 : Nat} {v : Value} {d : DataW H} {p : List MemPlace} (hv : Value.okWide Tryz.prog w r b0 t v) (h : DataW.Trod enc Tryz.prog w base spare held t v d p) : ∃ a b : Int, v = .agg #[.int .i64 a, .int .i64 b] := by
  obtain ⟨cs, rfl, hs⟩ := okWide_arr ht hv
  rw [hc2] at hs
  obtain ⟨fuel, hf⟩ := h
  obtain ⟨xs, m, _, _, _, hxl, hx⟩ := DataW.trod_array ht hf
  rw [hc] at hx
  obtain ⟨l⟩ := cs
  have hl : l.length = 2 := by simpa using hs
  match l, hl with
  | [c0, c1], _ =>
    have g0 : xs[0]? = some (xs[0]'(by omega)) := List.getElem?_eq_getElem (by omega)
    have g1 : xs[1]? = some (xs[1]'(by omega)) := List.getElem?_eq_getElem (by omega)
    obtain ⟨a, ea, _, _⟩ := DataW.trod_int he ((hx 0 (by omega)).trans g0)
    obtain ⟨b, eb, _, _⟩ := DataW.trod_int he ((hx 1 (by omega)).trans g1)
    simp [Value.cells] at ea eb
    exact ⟨a, b, by rw [ea, eb]⟩
end
end Go.Proofs.YtcpgkkphibhdfaaGreat
namespace Go.Proofs.YtcpgkkphibhdfaaGreat.storePlays
open Go.ChangeShapes Go.WideShapes Go.ChangeAt Go.RowKit Go.Deep
set_option linter.unusedVariables false
theorem own : ownKnob Tryz.prog.godebug = none := by kernel_rfl
theorem laidOut : laidOutB Tryz.prog = true := by kernel_rfl
section
variable {SB : World → Nat → (Nat → Prop) → St → Prop}
set_option maxRecDepth 100000 in
theorem lifted (hT : SC SB) (hN : SN) (os : Os) (started : os.Started) (H : Type) (enc : TypeId × Value → H) :
    ReturnsInHanded {} Tryz.checked os 3 .any (Rows.storePlaysSpec.pre6 enc Tryz.prog Tryz.f3 Rows.storePlaysRow.domain false) (Rows.storePlaysSpec.post enc Tryz.prog Tryz.f3 false true false false) := by
  refine returnsInHanded_of_change (C := Tryz.checked) own started (by kernel_rfl) Tryz.func3
    (ChangeSpec.witness6 (enc := enc) (C := Tryz.checked) false ⟨#[], #[.agg #[.int .i64 0, .int .i64 0], .slice none 0 0, .agg #[.int .i64 0, .int .i64 0]], []⟩ 8 (by kernel_rfl) (by kernel_rfl) (by kernel_rfl) (by kernel_rfl)) ?_
  intro W base args ds gs before hval0 hW hcnd _
  have hval : ∀ (j : Nat) t v, Tryz.f3.params[j]? = some t → args[j]? = some v → Value.okWide Tryz.prog W .any base t v := hval0
  have hW' := hW
  obtain ⟨p, q, hA0, hV, rfl, hfz, hnd⟩ := hW
  have hA : DataW.TrodAll enc Tryz.prog W 0 (fun _ => true) true Tryz.f3.params.toList args.toList ds p := hA0
  rw [Tryz.params3] at hA hval
  obtain ⟨v0, vs0, d0, ds0, p0, q0, hargs, rfl, rfl, h0, r0⟩ := trodAll_cons hA
  obtain ⟨v1, vs1, d1, ds1, p1, q1, rfl, rfl, rfl, h1, r1⟩ := trodAll_cons r0
  obtain ⟨v2, vs2, d2, ds2, p2, q2, rfl, rfl, rfl, h2, r2⟩ := trodAll_cons r1
  obtain ⟨rfl, rfl, rfl⟩ := trodAll_nil r2
  obtain rfl : args = #[v0, v1, v2] := by cases args; simp_all
  obtain ⟨rfl, rfl⟩ := trodVars_none hV
  obtain ⟨x0, y0, rfl⟩ := open_two Tryz.underlying22 Tryz.underlying3 (by kernel_rfl) (by kernel_rfl) (hval 0 22 v0 rfl rfl) h0
  obtain ⟨a1, len1, cap1, rfl⟩ := okWide_slice Tryz.underlying23 (hval 1 23 v1 rfl rfl)
  obtain ⟨x2, y2, rfl⟩ := open_two Tryz.underlying25 Tryz.underlying24 (by kernel_rfl) (by kernel_rfl) (hval 2 25 v2 rfl rfl) h2
  have k0 := h0
  have k1 := h1
  have k2 := h2
  have lt0 : ∀ x ∈ p0, x.block < W.heap.size := by obtain ⟨m, hm⟩ := k0; exact DataW.trod_lt m _ _ _ hm
  have lt1 : ∀ x ∈ p1, x.block < W.heap.size := by obtain ⟨m, hm⟩ := k1; exact DataW.trod_lt m _ _ _ hm
  have lt2 : ∀ x ∈ p2, x.block < W.heap.size := by obtain ⟨m, hm⟩ := k2; exact DataW.trod_lt m _ _ _ hm
  obtain ⟨As, row⟩ : ∃ As, ARow8 W a1 len1 As := by
    obtain ⟨fuel, hf⟩ := h1
    exact open_acts8 (by simpa [Value.cells] using hf)
  clear hA0 hval0
  refine (plays8_yes hT a1 len1 cap1 As x0 y0 x2 y2 W row hN).mono fun e W' ⟨he, bel⟩ => ?_
  subst he
  exact ⟨_, rfl, _, _, _, [], _, [], hW', trodAll_mk1 (shut_bool Tryz.underlying4 _), (trodAll_cons_mk (Below.trod laidOut (by kernel_rfl) (of_decide_eq_true (by kernel_rfl)) k0 bel lt0) (trodAll_cons_mk (Below.trod laidOut (by kernel_rfl) (of_decide_eq_true (by kernel_rfl)) k1 bel lt1) (trodAll_cons_mk (Below.trod laidOut (by kernel_rfl) (of_decide_eq_true (by kernel_rfl)) k2 bel lt2) trodAll_mk0))), rfl, bel.frame _, fun h => by cases h⟩

theorem over (hT : SC SB) (hN : SN) : Rows.storePlaysRow.holds Tryz.pinned (OpenSpec.ofChange Rows.storePlaysSpec) :=
  OpenClaim.holds_of_wide 3 Tryz.f3 rfl rfl rfl rfl rfl rfl rfl ⟨rfl, rfl, rfl, rfl, rfl⟩ rfl rfl rfl rfl rfl (by kernel_rfl) Tryz.func3 (by kernel_rfl)
    (of_decide_eq_true (by kernel_rfl)) (by unfold Func.isWrapper; first | (rw [if_pos (by decide +kernel)]; kernel_rfl) | (rw [if_neg (by decide +kernel)]; exact ⟨rfl, rfl⟩))
    (fun os started H enc _ => lifted hT hN os started H enc)
end
end Go.Proofs.YtcpgkkphibhdfaaGreat.storePlays
