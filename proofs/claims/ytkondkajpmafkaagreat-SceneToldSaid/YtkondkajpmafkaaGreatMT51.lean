/-
  2 texts in one file, each with its own heading.
-/
import Derived.Test.YtkondkajpmafkaaGreatMT50
import Derived.Test.YtkondkajpmafkaaGreatRows
import Derived.Test.YtkondkajpmafkaaGreatMT20
import Derived.WalkKit
import Derived.ProofKit
import Derived.OpenShut
import Derived.ShutString
import Derived.ChangeOld
import Derived.Below
/-
  SceneTold of layer 11 answers true, for any package that answers as the bundle says.
-/
namespace Go.Proofs.YtkondkajpmafkaaGreat
open Go.RowKit

theorem zNF_info : (Tryz.prog.info? 56).map (fun i => (i.zero, i.size, i.bytes)) = some (some (.agg (cNd default).toArray), 15, 120) := by kernel_rfl
theorem bs_nodeG (n : Nd) (W : World) : (Instr.buildSlice 50 1 #[(0, .agg (cNd n).toArray)]).run Tryz.prog W = .ok (.slice (some ⟨W.heap.size, 0, none⟩) 1 1) (W.alloc (.cells (cNd n).toArray 56)) := by kernel_rfl
section
variable {XB : World → Nat → (Nat → Prop) → Sc → Prop}
structure Two (XB : World → Nat → (Nat → Prop) → Sc → Prop) (w4 W : World) (g : Nat) (F : Nat → Prop) (X : Sc) (v8 v9 : Value) (L8 : List Nd) (L9 : List PT) : Prop where
  o8 : OwnX 15 cNd 56 W w4.heap.size v8 L8
  o9 : OwnX 24 pl 43 W w4.heap.size v9 L9
  ne : ∀ b, v8.ownBlock = some b → v9.ownBlock ≠ some b
  sb : XB W g F X
  bel : Below w4.heap.size w4 W
  lo : ∀ b, F b → b < w4.heap.size
section
variable {w4 W W' : World} {g : Nat} {F : Nat → Prop} {X : Sc} {v8 v9 v' : Value} {L8 L8' : List Nd} {L9 L9' : List PT}
theorem Two.keep (hX : XC XB) (h : Two XB w4 W g F X v8 v9 L8 L9) (hb : Below W.heap.size W W') : Two XB w4 W' g F X v8 v9 L8 L9 := ⟨h.o8.keep hb, h.o9.keep hb, h.ne, hX.kb.keep h.sb hb, bthen h.bel hb, h.lo⟩
theorem grown_below11 {B : Nat} {v : Value} (hB : B ≤ w4.heap.size) (hb : Below B w4 W) (k : W.grownBy W' v.ownBlock) (hv : ∀ b, v.ownBlock = some b → B ≤ b) : Below B w4 W' :=
  ⟨k.os.trans hb.os, k.tape.trans hb.tape, k.output.trans hb.output, Nat.le_trans hb.size k.size, fun q hq => (k.block q (Nat.lt_of_lt_of_le hq (Nat.le_trans hB hb.size)) (fun e => by have := hv q e.symm; omega)).trans (hb.block q hq)⟩
theorem Two.push8 (hX : XC XB) (h : Two XB w4 W g F X v8 v9 L8 L9) (k1 : OwnX 15 cNd 56 W' w4.heap.size v' L8') (k2 : W.grownBy W' v8.ownBlock) (k3 : v'.ownBlock = v8.ownBlock ∨ v'.ownBlock = some W.heap.size) : Two XB w4 W' g F X v' v9 L8' L9 :=
  ⟨k1, h.o9.same (fun b e => k2.block b (h.o9.lt b e).2 (fun c => h.ne b c.symm e)), fun b e c => k3.elim (fun d => h.ne b (d ▸ e) c) (fun d => by
    have h1 := (h.o9.lt b c).2
    rw [d] at e
    injection e with e
    omega), hX.kb.keep_ _ _ _ _ _ h.sb (fun b hf => k2.block b (hX.kb.inb _ _ _ _ h.sb b hf) (fun c => by have h1 := (h.o8.lt b c.symm).1; have h2 := h.lo b hf; omega)), grown_below11 (Nat.le_refl _) h.bel k2 (fun b e => (h.o8.lt b e).1), h.lo⟩
theorem Two.push9 (hX : XC XB) (h : Two XB w4 W g F X v8 v9 L8 L9) (k1 : OwnX 24 pl 43 W' w4.heap.size v' L9') (k2 : W.grownBy W' v9.ownBlock) (k3 : v'.ownBlock = v9.ownBlock ∨ v'.ownBlock = some W.heap.size) : Two XB w4 W' g F X v8 v' L8 L9' :=
  ⟨h.o8.same (fun b e => k2.block b (h.o8.lt b e).2 (fun c => h.ne b e c.symm)), k1, fun b e c => k3.elim (fun d => h.ne b e (d ▸ c)) (fun d => by
    have h1 := (h.o8.lt b e).2
    rw [d] at c
    injection c with c
    omega), hX.kb.keep_ _ _ _ _ _ h.sb (fun b hf => k2.block b (hX.kb.inb _ _ _ _ h.sb b hf) (fun c => by have h1 := (h.o9.lt b c.symm).1; have h2 := h.lo b hf; omega)), grown_below11 (Nat.le_refl _) h.bel k2 (fun b e => (h.o9.lt b e).1), h.lo⟩
end
theorem R11.keep (hX : XC XB) {w wr w' : World} {g m : Nat} {v8 v9 : Value} {since : Int} {F : Nat → Prop} {X I0 : Sc} (h : R11 XB w g m v8 v9 since wr F X I0) (hb : Below wr.heap.size wr w') : R11 XB w g m v8 v9 since w' F X I0 :=
  ⟨h.was.keep hb, h.had.keep hb, h.ow, h.oh, hX.kb.keep h.sb hb, h.wx, h.told, h.bd, bthen h.bel hb, h.foot⟩
structure N11 (XB : World → Nat → (Nat → Prop) → Sc → Prop) (w : World) (g m : Nat) (nw : Int) (wr : World) (F : Nat → Prop) (X : Sc) : Prop where
  sb : XB wr g F X
  wx : WX X
  told : ToldX (fun x P => inS X.S x P) (parO X.L) nw X
  bd : BSc X m
  bel : Below w.heap.size w wr
  foot : ∀ b, F b → w.heap.size ≤ b
theorem R11.next {w wr w' : World} {g m : Nat} {v8 v9 : Value} {since : Int} {F : Nat → Prop} {X I0 : Sc} (h : R11 XB w g m v8 v9 since wr F X I0) (hch : ChB XB wr w' g F (xneS X)) : ∃ F', N11 XB w g (m + 2) X.S.now w' F' (xneS X) := by
  obtain ⟨F', h1, h2, h3⟩ := hch
  exact ⟨F', h1, h.told.wx.ne, ToldX.start h.told.wx, h.bd.ne, Fr.below h2 h.bel h.foot h.bel.size, fun b hf => (h3 b hf).elim (fun c => h.foot b c) (fun c => Nat.le_trans h.bel.size c)⟩
theorem N11.keep (hX : XC XB) {w wr w' : World} {g m : Nat} {nw : Int} {F : Nat → Prop} {X : Sc} (h : N11 XB w g m nw wr F X) (hb : Below wr.heap.size wr w') : N11 XB w g m nw w' F X := ⟨hX.kb.keep h.sb hb, h.wx, h.told, h.bd, bthen h.bel hb, h.foot⟩
theorem al_len11 (X : Sc) : (alS X.S).length ≤ 256 := al_len X.S
theorem al_rg {X : Sc} (h : WX X) {y : Int} (hy : y ∈ alS X.S) : Rg y := by
  have h2 := live_iff.1 ((mem_all h.ws).1 hy)
  unfold Rg
  omega
theorem take_map {α : Type} {f : Int → α} {L : List Int} {q : Nat} {y : Int} (h : L[q]? = some y) : (L.map f).take (q + 1) = (L.map f).take q ++ [f y] := by
  rw [List.take_add_one, List.getElem?_map, h]
  rfl

theorem map_at {α : Type} {f : Int → α} {L : List Int} {q : Nat} {m : α} (h : (L.map f)[q]? = some m) : ∃ z, L[q]? = some z ∧ m = f z := by
  rw [List.getElem?_map] at h
  cases c : L[q]? with
  | none => rw [c] at h; cases h
  | some z => rw [c] at h; exact ⟨z, rfl, by simpa using h.symm⟩

def anyI (I0 X : Sc) (y : Int) (q : Nat) : Bool := ((alS I0.S).take q).any fun z => eqN (nodeX I0 z) (nodeX X y) && eqT (getP I0.S z) (getP X.S y)
theorem anyI_step {I0 X : Sc} {y z : Int} {q : Nat} (h : (alS I0.S)[q]? = some z) : anyI I0 X y (q + 1) = (anyI I0 X y q || (eqN (nodeX I0 z) (nodeX X y) && eqT (getP I0.S z) (getP X.S y))) := by
  unfold anyI
  rw [List.take_add_one, List.any_append, h]
  simp
theorem anyI_or {I0 X : Sc} {since : Int} (h0 : WX I0) (h : ToldX (fun x P => inS I0.S x P) (parO I0.L) since X) {y : Int} (hy : y ∈ alS X.S) {q : Nat} (hq : (alS I0.S).length ≤ q) : anyI I0 X y q = true ∨ y ∈ chL X.S since := by
  by_cases hc : y ∈ chL X.S since
  · exact Or.inr hc
  · obtain ⟨h1, h2, h3⟩ := ToldX.same h0 h ((mem_all h.wx.ws).1 hy) hc
    refine Or.inl ?_
    unfold anyI
    rw [List.take_of_length_le hq, List.any_eq_true]
    exact ⟨y, h1, by rw [h2, h3, eqN_self, eqT_self]; rfl⟩
theorem node_id {X : Sc} (h : WX X) {z : Int} (hz : z ∈ alS X.S) : (nodeX X z).id = z := by
  obtain ⟨P, hP⟩ := (h.ws.live z).1 ((mem_all h.ws).1 hz)
  unfold nodeX
  rw [if_pos (getB_iff.2 ⟨P, hP⟩)]

set_option maxHeartbeats 40000000 in
set_option maxRecDepth 100000 in
theorem told11_yes (hX : XC XB) (a : Option Addr) (len cap : Nat) (xs : List A11) (at_ : Int) (w : World) (row : ARow11 w a len xs) (h0 : 0 ≤ at_) (h255 : at_ ≤ 255) :
    Calls Tryz.prog 4 #[.slice a len cap, .int .u8 at_] w fun e w' => e = .returned (.bool true) ∧ Below w.heap.size w w' := by
  have hbig := row.2.1
  have HRow := Lib.hid row
  have HXX := Lib.hid hX
  have HFits := Lib.hid (fits11_any a len cap xs w row)
  have HAlive := Lib.hid (alive11_any hX)
  clear row hX
  go_enter Tryz.func4, Tryz.ntmps4
  go_wp2_with fail
  refine HFits.out.mono ?_
  rintro e w1 ⟨ok, rfl, hok, rfl⟩
  have HOk := Lib.hid hok
  clear hok HFits
  go_wp2_with fail
  refine (HXX.out.new w 16 (by omega)).mono ?_
  rintro e w1 ⟨g, F, rfl, sb, hF, b1⟩
  have HB := Lib.hid b1
  have HR0 := Lib.hid (R11.start (XB := XB) (w := w) (r := 16) (by omega) sb hF b1)
  clear sb hF b1
  cases ok with
  | false =>
    go_wp2_with fail
    refine (HAlive.out _).mono ?_
    rintro e w2 ⟨rfl, b2⟩
    replace HB := Lib.hid (bthen HB.out b2)
    clear b2
    go_wp2
    go_ret
    exact ⟨rfl, HB.out⟩
  | true =>
    obtain ⟨h80, hn80⟩ := HOk.out rfl
    have HN80 := Lib.hid hn80
    clear hn80 HOk
    go_wp2
    go_loopw [8, 9, 10, 11, 12, 13, 14, 15, 16, 17] (fun v8 v9 v10 v11 _ _ _ _ _ _ wr => ∃ (j : Nat) (since : Int) (F : Nat → Prop) (X I0 : Sc), j ≤ len ∧ v11 = .int .i64 j ∧ v10 = .int .i64 since ∧ R11 XB w g (4 * j) v8 v9 since wr F X I0) (fun _ _ _ v11 _ _ _ _ _ _ _ => len - (intOf v11).toNat)
    case atStart => exact ⟨0, 0, F, Sc0 16, Sc0 16, by omega, rfl, rfl, HR0.out⟩
    case round =>
      clear HR0 HB
      obtain ⟨j, since, F, X, I0, hj, rfl, rfl, hr1⟩ := hrel
      have HR1 := Lib.hid hr1
      clear hr1
      by_cases hlt : j < len
      · have j0 : (0 : Int) ≤ (j : Int) := by omega
        have j1 : (j : Int) < (len : Int) := by omega
        obtain ⟨b, off, x, rfl, hx, hrx, hok⟩ := HRow.out.at_ hlt
        have hxn : x.n ≤ 80 := HN80.out x (List.mem_of_getElem? hx)
        have HSz := Lib.hid (c11_size x)
        have hbw := World.block_lt_of_cell? _ _ (hrx 0 _ rfl)
        have HOr : Hid (∀ u, Below w.heap.size w u → u.rangeAt b (off + j * 28) (c11 x) ∧ b < u.heap.size) := Lib.hid (fun u q => ⟨range_same hrx (q.block b hbw), Nat.lt_of_lt_of_le hbw q.size⟩)
        have HDo : Hid (∀ u F' X' m, m ≤ 800 → Below w.heap.size w u → XB u g F' X' → WX X' → BSc X' m → (∀ c, F' c → w.heap.size ≤ c) → Calls Tryz.prog 9 #[.pointer (some ⟨g, 0, none⟩), .agg (c11 x).toArray] u fun e w' => (∃ v, e = .returned v) ∧ ChB XB u w' g F' (doX X' x)) := Lib.hid (fun u F' X' m hm q h hW hB hF => (do11_any HXX.out h hW (hB.mono hm) x (hok.keep q) (aw_in hok.2.2.2.2.2.2 hF) hxn).mono (fun _ _ k => ⟨⟨_, k.1⟩, k.2⟩))
        have HAct : Hid (∀ {wr w' : World} {m m' : Nat} {v8 v9 : Value} {since : Int} {F : Nat → Prop} {X I0 : Sc}, R11 XB w g m v8 v9 since wr F X I0 → ChB XB wr w' g F (doX X x) → m + 2 ≤ m' → ∃ F', R11 XB w g m' v8 v9 since w' F' (doX X x) I0) := Lib.hid (fun h k m => h.act k m)
        obtain ⟨dX, hdX⟩ : ∃ dX : Sc → Sc, dX = fun X => doX X x := ⟨_, rfl⟩
        have eX : ∀ X, doX X x = dX X := fun X => by rw [hdX]
        simp only [eX] at HDo HAct
        obtain ⟨Xc, hXc⟩ : ∃ Xc, Xc = c11 x := ⟨_, rfl⟩
        rw [← hXc] at HOr HSz HDo
        clear hx hrx hok hxn hbw hdX eX hXc HRow HN80
        by_cases hat : (j : Int) = at_
        · subst hat
          have HTk : Hid (Calls Tryz.prog 13 #[.pointer (some ⟨g, 0, none⟩)] wr fun e w' => e = .returned (.int .i64 X.S.now) ∧ Below wr.heap.size wr w') := Lib.hid (HXX.out.tick wr g F X HR1.out.told.wx (HR1.out.bd.mono (by omega)) HR1.out.sb)
          have HNx : Hid (∀ u, Below wr.heap.size wr u → Calls Tryz.prog 14 #[.pointer (some ⟨g, 0, none⟩)] u fun e w' => (∃ v, e = .returned v) ∧ ∃ F', N11 XB w g (4 * j + 2) X.S.now w' F' (xneS X)) := Lib.hid (fun u q => (HXX.out.next u g F X HR1.out.told.wx (HR1.out.bd.mono (by omega)) (HXX.out.kb.keep HR1.out.sb q)).mono (fun _ _ k => ⟨⟨_, k.1⟩, (HR1.out.keep HXX.out q).next k.2⟩))
          obtain ⟨nw, hnw⟩ : ∃ nw, nw = X.S.now := ⟨_, rfl⟩
          obtain ⟨Y, hY⟩ : ∃ Y, Y = xneS X := ⟨_, rfl⟩
          rw [← hnw] at HTk HNx
          rw [← hY] at HNx
          clear hnw hY
          go_wp2_with fail
          refine HTk.out.mono ?_
          rintro e w2 ⟨rfl, b2⟩
          have HB2 := Lib.hid b2
          clear b2 HTk HR1
          go_wp2_with fail
          refine (HNx.out w2 HB2.out).mono ?_
          rintro e w3 ⟨⟨nv, rfl⟩, F3, h3⟩
          have HN := Lib.hid h3
          clear h3 HNx HB2
          go_wp2_with fail
          refine (HXX.out.all w3 g F3 Y HN.out.wx (HN.out.bd.mono (by omega)) HN.out.sb).mono ?_
          rintro e w4 ⟨v, rfl, ⟨ia, icap, rfl, irow, -⟩, b4⟩
          have HIr := Lib.hid irow
          replace HN := Lib.hid (HN.out.keep HXX.out b4)
          have HT0 : Hid (Two XB w4 w4 g F3 Y (.slice none 0 0) (.slice none 0 0) [] []) := Lib.hid ⟨OwnX.nil _ _ _ _ _, OwnX.nil _ _ _ _ _, fun b hb => (by cases hb), HN.out.sb, Below.refl _ _, fun b hf => HXX.out.kb.inb _ _ _ _ HN.out.sb b hf⟩
          clear irow b4
          obtain ⟨n, hn⟩ : ∃ n, n = (alS Y.S).length := ⟨_, rfl⟩
          have hn256 : n ≤ 256 := by rw [hn]; exact al_len11 Y
          rw [← hn] at HIr ⊢
          have HNn := Lib.hid hn
          clear hn
          go_wp2
          go_loopw [8, 9, 13, 14, 15, 16, 17] (fun v8 v9 v13 _ _ _ _ wq => ∃ q : Nat, q ≤ n ∧ v13 = .int .i64 q ∧ Two XB w4 wq g F3 Y v8 v9 (((alS Y.S).map (nodeX Y)).take q) (((alS Y.S).map (getP Y.S)).take q)) (fun _ _ v13 _ _ _ _ _ => n - (intOf v13).toNat)
          case atStart => exact ⟨0, by omega, rfl, HT0.out⟩
          case round =>
            clear HT0
            obtain ⟨q, hq, rfl, htw⟩ := hrel
            have HT := Lib.hid htw
            clear htw
            by_cases hqn : q < n
            · have q0 : (0 : Int) ≤ (q : Int) := by omega
              have q1 : (q : Int) < (n : Int) := by omega
              obtain ⟨ib, ioff, y, rfl, hy, cy⟩ := row_at (row_keep HIr.out HT.out.bel) hqn
              have hib := World.block_lt_of_cell? _ _ cy
              have HCy : Hid (∀ u, Below wr.heap.size wr u → u.cell? ⟨ib, ioff + q, none⟩ = some (.int .i64 y) ∧ ib < u.heap.size) := Lib.hid (fun u q => ⟨cell_keep cy q, Nat.lt_of_lt_of_le hib q.size⟩)
              have HS8 : Hid (((alS Y.S).map (nodeX Y)).take (q + 1) = ((alS Y.S).map (nodeX Y)).take q ++ [nodeX Y y]) := Lib.hid (take_map hy)
              have HS9 : Hid (((alS Y.S).map (getP Y.S)).take (q + 1) = ((alS Y.S).map (getP Y.S)).take q ++ [getP Y.S y]) := Lib.hid (take_map hy)
              have hrg : Rg y := al_rg HN.out.wx (List.mem_of_getElem? hy)
              have HNo : Hid (Calls Tryz.prog 16 #[.pointer (some ⟨g, 0, none⟩), .int .i64 y] wr fun e w' => ∃ Z, e = .returned (.tuple #[.agg (List.toArray Z), .bool (getB Y.S y)]) ∧ Z = cNd (nodeX Y y) ∧ Below wr.heap.size wr w') := Lib.hid (HXX.out.node wr g F3 Y y HN.out.wx (HN.out.bd.mono (by omega)) HT.out.sb hrg)
              have HGe : Hid (∀ u, XB u g F3 Y → Calls Tryz.prog 17 #[.pointer (some ⟨g, 0, none⟩), .int .i64 y] u fun e w' => ∃ Z, e = .returned (.tuple #[.agg (List.toArray Z), .bool (getB Y.S y)]) ∧ Z = pl (getP Y.S y) ∧ Below u.heap.size u w') := Lib.hid (fun u h => HXX.out.get u g F3 Y y HN.out.wx (HN.out.bd.mono (by omega)) h)
              have hl8 : (((alS Y.S).map (nodeX Y)).take q).length ≤ 2000 := by rw [List.length_take]; omega
              have hl9 : (((alS Y.S).map (getP Y.S)).take q).length ≤ 2000 := by rw [List.length_take]; omega
              obtain ⟨L8, hL8⟩ : ∃ L, L = ((alS Y.S).map (nodeX Y)).take q := ⟨_, rfl⟩
              obtain ⟨L9, hL9⟩ : ∃ L, L = ((alS Y.S).map (getP Y.S)).take q := ⟨_, rfl⟩
              rw [← hL8] at HT HS8 hl8
              rw [← hL9] at HT HS9 hl9
              generalize getB Y.S y = ok at HNo HGe
              obtain ⟨nd, hnd⟩ : ∃ nd, nd = nodeX Y y := ⟨_, rfl⟩
              obtain ⟨pp, hpp⟩ : ∃ pp, pp = getP Y.S y := ⟨_, rfl⟩
              rw [← hnd] at HNo HS8
              rw [← hpp] at HGe HS9
              clear hL8 hL9 hnd hpp hy hrg
              go_wp2_with fail
              refine HNo.out.mono ?_
              rintro e w5 ⟨Z, rfl, hZ, b5⟩
              have HZ := Lib.hid hZ
              have HNX : Hid (NXs Z 56) := Lib.hid (by rw [hZ]; exact nx_flow nd)
              have HBs8 : Hid (∀ W, (Instr.buildSlice 50 1 #[(0, .agg Z.toArray)]).run Tryz.prog W = .ok (.slice (some ⟨W.heap.size, 0, none⟩) 1 1) (W.alloc (.cells Z.toArray 56))) := Lib.hid (by rw [hZ]; exact bs_nodeG nd)
              have hbs : Below w5.heap.size w5 ((w5.alloc (.cells (cNd n0d).toArray 56)).setCells w5.heap.size 0 Z) := below_setCells Z (alloc_below _ _) (Nat.le_refl _)
              have HT14 : Hid ((w5.alloc (.cells (cNd n0d).toArray 56)).there w5.heap.size 0 Z.toArray.size) := Lib.hid (blk_there (Blk.new w5 _ _) (by rw [List.size_toArray, HNX.out.len]; exact Nat.le_refl 15))
              have HE14 : Hid (Blk ((w5.alloc (.cells (cNd n0d).toArray 56)).setCells w5.heap.size 0 Z) w5.heap.size 56 Z.toArray ∧ Two XB w4 ((w5.alloc (.cells (cNd n0d).toArray 56)).setCells w5.heap.size 0 Z) g F3 Y u8 u9 L8 L9 ∧ Below wr.heap.size wr ((w5.alloc (.cells (cNd n0d).toArray 56)).setCells w5.heap.size 0 Z) ∧ wr.heap.size ≤ w5.heap.size) := Lib.hid ⟨blk_over (Blk.new w5 _ _) (by rw [HNX.out.len]; rfl), HT.out.keep HXX.out (bthen b5 hbs), bthen b5 hbs, b5.size⟩
              have HO8 : Hid (∀ c, u8.ownBlock = some c → c < wr.heap.size) := Lib.hid (fun c e => (HT.out.o8.lt c e).2)
              clear hZ b5 hbs cy hib HNo HT
              go_upto_region 23 with (refine wpList_store_mid rfl 56 (.tmp 14) (.tmp 76) rfl w5.heap.size 0 Z.toArray rfl rfl HT14.out HNX.out.sizea HNX.out.onea ?_)
              refine fin (fun W => Blk W w5.heap.size 56 Z.toArray ∧ Two XB w4 W g F3 Y u8 u9 L8 L9 ∧ Below wr.heap.size wr W ∧ wr.heap.size ≤ w5.heap.size) HE14.out ?_
              clear HE14 HT14
              obtain ⟨g14, hg14⟩ : ∃ g, g = w5.heap.size := ⟨_, rfl⟩
              rw [← hg14]
              rintro W5 ⟨k14, ht, hbr, hg14w⟩
              have K14 := Lib.hid k14
              have HT := Lib.hid ht
              have HBr := Lib.hid hbr
              obtain ⟨cy, hib⟩ := HCy.out W5 hbr
              clear k14 ht hbr hg14
              go_wp2_with fail
              refine (HGe.out W5 HT.out.sb).mono ?_
              rintro e w6 ⟨ZP, rfl, hZP, b6⟩
              have HZP := Lib.hid hZP
              have HPX : Hid (PXs ZP) := Lib.hid (by rw [hZP]; exact ⟨pl_len _, pl_size _, pl_size' _, pl_one _⟩)
              have HBs9 : Hid (∀ W, (Instr.buildSlice 51 1 #[(0, .agg ZP.toArray)]).run Tryz.prog W = .ok (.slice (some ⟨W.heap.size, 0, none⟩) 1 1) (W.alloc (.cells ZP.toArray 43))) := Lib.hid (by rw [hZP]; exact bs_parts _)
              have hbs : Below w6.heap.size w6 ((w6.alloc (.cells Z24.toArray 43)).setCells w6.heap.size 0 ZP) := below_setCells ZP (alloc_below _ _) (Nat.le_refl _)
              have HT16 : Hid ((w6.alloc (.cells Z24.toArray 43)).there w6.heap.size 0 ZP.toArray.size) := Lib.hid (blk_there (Blk.new w6 _ _) (by rw [List.size_toArray, HPX.out.1]; exact Nat.le_refl 24))
              have HE16 : Hid (Blk ((w6.alloc (.cells Z24.toArray 43)).setCells w6.heap.size 0 ZP) w6.heap.size 43 ZP.toArray ∧ Blk ((w6.alloc (.cells Z24.toArray 43)).setCells w6.heap.size 0 ZP) g14 56 Z.toArray ∧ Two XB w4 ((w6.alloc (.cells Z24.toArray 43)).setCells w6.heap.size 0 ZP) g F3 Y u8 u9 L8 L9 ∧ wr.heap.size ≤ w6.heap.size) := Lib.hid ⟨blk_over (Blk.new w6 _ _) (by rw [HPX.out.1]; rfl), K14.out.keep (bthen b6 hbs), HT.out.keep HXX.out (bthen b6 hbs), Nat.le_trans HBr.out.size b6.size⟩
              clear hZP b6 hbs cy hib HGe HT K14 HBr HCy
              go_upto_region 24 with (refine wpList_store_mid rfl 43 (.tmp 16) (.tmp 85) rfl w6.heap.size 0 ZP.toArray rfl rfl HT16.out HPX.out.2.2.1 HPX.out.2.2.2 ?_)
              refine fin (fun W => Blk W w6.heap.size 43 ZP.toArray ∧ Blk W g14 56 Z.toArray ∧ Two XB w4 W g F3 Y u8 u9 L8 L9 ∧ wr.heap.size ≤ w6.heap.size) HE16.out ?_
              clear HE16 HT16
              obtain ⟨g16, hg16⟩ : ∃ g, g = w6.heap.size := ⟨_, rfl⟩
              rw [← hg16]
              rintro W6 ⟨k16, k14, ht, hg16w⟩
              have K16 := Lib.hid k16
              have K14 := Lib.hid k14
              have HT := Lib.hid ht
              have hk14 := k14.lt
              have h4s : w4.heap.size ≤ W6.heap.size := ht.bel.size
              clear k16 k14 ht hg16
              go_wp2_with (first
                | refine wpList_load_mid rfl 56 (.tmp 14) rfl g14 0 rfl Z _ (blk_whole K14.out) Tryz.underlying56 rfl HNX.out.size ?_
                | refine wpList_bs8 rfl 50 56 (.tmp 88) rfl Z rfl HBs8.out ?_
                | (at_builtin; refine wpList_pushX rfl (.tmp 87) (.tmp 89) 50 120 (.agg (cNd default).toArray) rfl Tryz.underlying50 zNF_info rfl (by decide) (by decide) cNd_len nd (cNd_one nd) rfl (HT.out.o8.keep (alloc_below _ _)) W6.heap.size 1 rfl (by rw [← HZ.out]; exact blk_whole (Blk.new W6 _ _)) (by omega) (by simp; omega) ?_))
              intro v8' W7 k1 k2 k3
              have hal : Below W6.heap.size W6 (W6.alloc (.cells Z.toArray 56)) := alloc_below _ _
              have HT7 : Hid (Two XB w4 W7 g F3 Y v8' u9 (L8 ++ [nd]) L9 ∧ Blk W7 g16 43 ZP.toArray) := Lib.hid ⟨(HT.out.keep HXX.out hal).push8 HXX.out k1 k2 (k3.imp id (fun e => e.trans (by simp))), (K16.out.keep hal).same (k2.block _ (K16.out.keep hal).lt (fun e => by have := HO8.out _ e.symm; omega))⟩
              rw [← HS8.out] at HT7
              have h47 : w4.heap.size ≤ W7.heap.size := HT7.out.1.bel.size
              have K16 := Lib.hid HT7.out.2
              replace HT := Lib.hid HT7.out.1
              have hk16 := K16.out.lt
              clear k1 k2 k3 hal HT7 K14 hk14 HNX HBs8 HO8
              go_wp2_with (first
                | refine wpList_load_mid rfl 43 (.tmp 16) rfl g16 0 rfl ZP _ (blk_whole K16.out) Tryz.underlying43 rfl HPX.out.2.1 ?_
                | refine wpList_bs8 rfl 51 43 (.tmp 92) rfl ZP rfl HBs9.out ?_
                | (at_builtin; refine wpList_pushX rfl (.tmp 91) (.tmp 93) 51 192 (.agg Z24.toArray) rfl Tryz.underlying51 inf_parts rfl (by decide) (by decide) (fun _ => rfl) pp (one_all (by rw [← HZP.out]; exact HPX.out.2.2.2)) rfl (HT.out.o9.keep (alloc_below _ _)) W7.heap.size 1 rfl (by rw [← HZP.out]; exact blk_whole (Blk.new W7 _ _)) (by omega) (by simp; omega) ?_))
              intro v9' W8 k1 k2 k3
              have HT8 : Hid (Two XB w4 W8 g F3 Y v8' v9' (((alS Y.S).map (nodeX Y)).take (q + 1)) (L9 ++ [pp])) := Lib.hid ((HT.out.keep HXX.out (alloc_below _ _)).push9 HXX.out k1 k2 (k3.imp id (fun e => e.trans (by simp))))
              rw [← HS9.out] at HT8
              clear k1 k2 k3 HT K16 hk16
              go_wp2
              go_roundw
              case rel => exact ⟨q + 1, by omega, by go_num, HT8.out⟩
              case measure => simp [intOf] <;> omega
            · obtain rfl : q = n := by omega
              have HR4 : Hid (R11 XB w g (4 * j + 2) u8 u9 nw wr F3 Y Y) := Lib.hid (by
                have h1 := HT.out.o8
                have h2 := HT.out.o9
                rw [List.take_of_length_le (by rw [List.length_map, HNn.out]; exact Nat.le_refl _)] at h1 h2
                have hs := HN.out.bel.size
                exact ⟨h1.low hs, h2.low hs, fun b e hf => by have h3 := (h1.lt b e).1; have h4 := HT.out.lo b hf; omega, fun b e hf => by have h3 := (h2.lt b e).1; have h4 := HT.out.lo b hf; omega, HT.out.sb, HN.out.wx, HN.out.told, HN.out.bd, bthen HN.out.bel HT.out.bel, HN.out.foot⟩)
              clear HT HN HIr HNn
              obtain ⟨hrx, hbw⟩ := HOr.out _ HR4.out.bel
              have HRx := Lib.hid hrx
              clear hrx HOr
              go_wp2_with (refine wpList_load_mid rfl 46 (.tmp 98) rfl b (off + j * 28) rfl Xc _ HRx.out Tryz.underlying46 rfl HSz.out ?_)
              refine (HDo.out _ F3 Y (4 * j + 2) (by omega) HR4.out.bel HR4.out.sb HR4.out.wx HR4.out.bd HR4.out.foot).mono ?_
              rintro e w9 ⟨⟨dv, rfl⟩, ch⟩
              have HN := Lib.hid (HAct.out HR4.out ch (show 4 * j + 2 + 2 ≤ 4 * (j + 1) by omega))
              clear ch HDo HRx HSz HAct
              go_wp2
              go_roundw
              case rel =>
                obtain ⟨F', hn⟩ := HN.out
                exact ⟨j + 1, nw, F', _, Y, by omega, by go_num, rfl, hn⟩
              case measure => simp [intOf] <;> omega
        · have hat' : ((j : Int) == at_) = false := by simpa using hat
          obtain ⟨hrx, hbw⟩ := HOr.out _ HR1.out.bel
          have HRx := Lib.hid hrx
          clear hrx HOr
          go_wp2_with (refine wpList_load_mid rfl 46 (.tmp 98) rfl b (off + j * 28) rfl Xc _ HRx.out Tryz.underlying46 rfl HSz.out ?_)
          refine (HDo.out _ F X (4 * j) (by omega) HR1.out.bel HR1.out.sb HR1.out.told.wx HR1.out.bd HR1.out.foot).mono ?_
          rintro e w9 ⟨⟨dv, rfl⟩, ch⟩
          have HN := Lib.hid (HAct.out HR1.out ch (show 4 * j + 2 ≤ 4 * (j + 1) by omega))
          clear ch HDo HRx HSz HAct
          go_wp2
          go_roundw
          case rel =>
            obtain ⟨F', hn⟩ := HN.out
            exact ⟨j + 1, since, F', _, I0, by omega, by go_num, rfl, hn⟩
          case measure => simp [intOf] <;> omega
      · obtain rfl : j = len := by omega
        clear hlt HN80 HRow
        obtain ⟨n0, hn0⟩ : ∃ n, n = (alS I0.S).length := ⟨_, rfl⟩
        have e8 : ∃ a8 cap8, u8 = .slice a8 n0 cap8 ∧ RowX 15 cNd wr a8 n0 ((alS I0.S).map (nodeX I0)) := by
          obtain ⟨a8, cap8, e, h1, h2, h3⟩ := HR1.out.was.row cNd_len
          rw [List.length_map, ← hn0] at e h3
          exact ⟨a8, cap8, e, h3⟩
        have e9 : ∃ a9 cap9, u9 = .slice a9 n0 cap9 ∧ RowX 24 pl wr a9 n0 ((alS I0.S).map (getP I0.S)) := by
          obtain ⟨a9, cap9, e, h1, h2, h3⟩ := HR1.out.had.row pl_len
          rw [List.length_map, ← hn0] at e h3
          exact ⟨a9, cap9, e, h3⟩
        obtain ⟨a8, cap8, e8', row8⟩ := e8
        obtain ⟨a9, cap9, e9', row9⟩ := e9
        subst e8'
        subst e9'
        have hn256 : n0 ≤ 256 := by rw [hn0]; exact al_len11 I0
        have HN0 := Lib.hid hn0
        have HW8 := Lib.hid row8
        have HW9 := Lib.hid row9
        have HW0 := Lib.hid HR1.out.wx
        have HTd := Lib.hid HR1.out.told
        have HBd : Hid (BSc X 900) := Lib.hid (HR1.out.bd.mono (by omega))
        have HS := Lib.hid HR1.out.sb
        have HBel := Lib.hid HR1.out.bel
        clear HR1 row8 row9 hn0
        go_wp2_with fail
        refine (HXX.out.changed _ g F X since HTd.out.wx HBd.out HS.out).mono ?_
        rintro e w5 ⟨v, rfl, ⟨ca, ccap, rfl, crow, -⟩, b5⟩
        replace HS := Lib.hid (HXX.out.kb.keep HS.out b5)
        replace HW8 := Lib.hid (HW8.out.keep b5)
        replace HW9 := Lib.hid (HW9.out.keep b5)
        replace HBel := Lib.hid (bthen HBel.out b5)
        have HCr := Lib.hid crow
        clear crow b5
        go_wp2_with fail
        refine (HXX.out.gone _ g F X since HTd.out.wx HBd.out HS.out).mono ?_
        rintro e w6 ⟨v, rfl, ⟨ga, gcap, rfl, grow, -⟩, b6⟩
        replace HS := Lib.hid (HXX.out.kb.keep HS.out b6)
        replace HW8 := Lib.hid (HW8.out.keep b6)
        replace HW9 := Lib.hid (HW9.out.keep b6)
        replace HBel := Lib.hid (bthen HBel.out b6)
        replace HCr := Lib.hid (row_keep HCr.out b6)
        have HGr := Lib.hid grow
        clear grow b6
        go_wp2_with fail
        refine (HXX.out.all _ g F X HTd.out.wx HBd.out HS.out).mono ?_
        rintro e w7 ⟨v, rfl, ⟨aa, acap, rfl, arow, -⟩, b7⟩
        replace HS := Lib.hid (HXX.out.kb.keep HS.out b7)
        replace HW8 := Lib.hid (HW8.out.keep b7)
        replace HW9 := Lib.hid (HW9.out.keep b7)
        replace HBel := Lib.hid (bthen HBel.out b7)
        replace HCr := Lib.hid (row_keep HCr.out b7)
        replace HGr := Lib.hid (row_keep HGr.out b7)
        have HAr := Lib.hid arow
        clear arow b7
        obtain ⟨nA, hnA⟩ : ∃ nA, nA = (alS X.S).length := ⟨_, rfl⟩
        obtain ⟨nC, hnC⟩ : ∃ nC, nC = (chL X.S since).length := ⟨_, rfl⟩
        obtain ⟨nG, hnG⟩ : ∃ nG, nG = (goL X.S since).length := ⟨_, rfl⟩
        have hA256 : nA ≤ 256 := by rw [hnA]; exact al_len11 X
        rw [← hnA] at HAr ⊢
        rw [← hnC] at HCr ⊢
        rw [← hnG] at HGr ⊢
        clear hnA hnC hnG
        go_wp2
        go_loopw [21, 22, 23, 24, 25, 26, 27, 28] (fun v21 _ _ _ _ _ _ _ wq => ∃ i : Nat, i ≤ nA ∧ v21 = .int .i64 i ∧ Below w7.heap.size w7 wq) (fun v21 _ _ _ _ _ _ _ _ => nA - (intOf v21).toNat)
        case atStart => exact ⟨0, by omega, rfl, Below.refl _ _⟩
        case round =>
          obtain ⟨i, hi, rfl, hb3⟩ := hrel
          have HB3 := Lib.hid hb3
          clear hb3
          by_cases hin : i < nA
          · have i0 : (0 : Int) ≤ (i : Int) := by omega
            have i1 : (i : Int) < (nA : Int) := by omega
            obtain ⟨ab, aoff, y, rfl, hy, cy7⟩ := row_at HAr.out hin
            have hab7 := World.block_lt_of_cell? _ _ cy7
            have HYm : Hid (y ∈ alS X.S) := Lib.hid (List.mem_of_getElem? hy)
            have HCy : Hid (∀ u, Below w7.heap.size w7 u → u.cell? ⟨ab, aoff + i, none⟩ = some (.int .i64 y) ∧ ab < u.heap.size) := Lib.hid (fun u q => ⟨cell_keep cy7 q, Nat.lt_of_lt_of_le hab7 q.size⟩)
            have HNo : Hid (∀ u, Below w7.heap.size w7 u → Calls Tryz.prog 16 #[.pointer (some ⟨g, 0, none⟩), .int .i64 y] u fun e w' => ∃ Z, e = .returned (.tuple #[.agg (List.toArray Z), .bool (getB X.S y)]) ∧ Z = cNd (nodeX X y) ∧ Below u.heap.size u w') := Lib.hid (fun u q => HXX.out.node u g F X y HTd.out.wx HBd.out (HXX.out.kb.keep HS.out q) (al_rg HTd.out.wx HYm.out))
            have HGe : Hid (∀ u, Below w7.heap.size w7 u → Calls Tryz.prog 17 #[.pointer (some ⟨g, 0, none⟩), .int .i64 y] u fun e w' => ∃ Z, e = .returned (.tuple #[.agg (List.toArray Z), .bool (getB X.S y)]) ∧ Z = pl (getP X.S y) ∧ Below u.heap.size u w') := Lib.hid (fun u q => HXX.out.get u g F X y HTd.out.wx HBd.out (HXX.out.kb.keep HS.out q))
            have HHg : Hid (∀ u, Below w7.heap.size w7 u → Calls Tryz.prog 21 #[.pointer (some ⟨g, 0, none⟩), .slice (some ⟨ab, aoff, none⟩) nA acap, .int .i64 y] u fun e w' => e = .returned (.bool true) ∧ Below u.heap.size u w') := Lib.hid (fun u q => hangs11_any HXX.out (HXX.out.kb.keep HS.out q) HTd.out.wx HBd.out _ nA acap (row_keep HAr.out q) y HYm.out)
            have HOr : Hid (anyI I0 X y n0 = true ∨ y ∈ chL X.S since) := Lib.hid (anyI_or HW0.out HTd.out HYm.out (by rw [HN0.out]; exact Nat.le_refl _))
            have HSt : Hid (∀ q z, (alS I0.S)[q]? = some z → anyI I0 X y (q + 1) = (anyI I0 X y q || (eqN (nodeX I0 z) (nodeX X y) && eqT (getP I0.S z) (getP X.S y)))) := Lib.hid (fun q z h => anyI_step h)
            obtain ⟨sf, hsf⟩ : ∃ sf, sf = anyI I0 X y := ⟨_, rfl⟩
            have HSf : Hid (sf 0 = false) := Lib.hid (by rw [hsf]; rfl)
            generalize getB X.S y = ok at HNo HGe
            obtain ⟨nd, hnd⟩ : ∃ nd, nd = nodeX X y := ⟨_, rfl⟩
            obtain ⟨pp, hpp⟩ : ∃ pp, pp = getP X.S y := ⟨_, rfl⟩
            rw [← hsf] at HOr HSt
            rw [← hnd] at HNo HSt
            rw [← hpp] at HGe HSt
            clear hsf hnd hpp hy cy7 hab7 HYm
            obtain ⟨cy, hab⟩ := HCy.out wr HB3.out
            go_wp2_with fail
            refine (HNo.out wr HB3.out).mono ?_
            rintro e w8 ⟨Z, rfl, hZ, b8⟩
            have HZ := Lib.hid hZ
            have HNX : Hid (NXs Z 56) := Lib.hid (by rw [hZ]; exact nx_flow nd)
            have hbs : Below w8.heap.size w8 ((w8.alloc (.cells (cNd n0d).toArray 56)).setCells w8.heap.size 0 Z) := below_setCells Z (alloc_below _ _) (Nat.le_refl _)
            have HT22 : Hid ((w8.alloc (.cells (cNd n0d).toArray 56)).there w8.heap.size 0 Z.toArray.size) := Lib.hid (blk_there (Blk.new w8 _ _) (by rw [List.size_toArray, HNX.out.len]; exact Nat.le_refl 15))
            have HE22 : Hid (Blk ((w8.alloc (.cells (cNd n0d).toArray 56)).setCells w8.heap.size 0 Z) w8.heap.size 56 Z.toArray ∧ Below w7.heap.size w7 ((w8.alloc (.cells (cNd n0d).toArray 56)).setCells w8.heap.size 0 Z)) := Lib.hid ⟨blk_over (Blk.new w8 _ _) (by rw [HNX.out.len]; rfl), bthen HB3.out (bthen b8 hbs)⟩
            clear hZ b8 hbs cy hab HNo HB3
            go_upto_region 34 with (refine wpList_store_mid rfl 56 (.tmp 22) (.tmp 122) rfl w8.heap.size 0 Z.toArray rfl rfl HT22.out HNX.out.sizea HNX.out.onea ?_)
            refine fin (fun W => Blk W w8.heap.size 56 Z.toArray ∧ Below w7.heap.size w7 W) HE22.out ?_
            clear HE22 HT22
            obtain ⟨g22, hg22⟩ : ∃ g, g = w8.heap.size := ⟨_, rfl⟩
            rw [← hg22]
            rintro W8 ⟨k22, hb3⟩
            have K22 := Lib.hid k22
            have HB3 := Lib.hid hb3
            obtain ⟨cy, hab⟩ := HCy.out W8 hb3
            clear k22 hb3 hg22
            go_wp2_with fail
            refine (HGe.out W8 HB3.out).mono ?_
            rintro e w9 ⟨ZP, rfl, hZP, b9⟩
            have HZP := Lib.hid hZP
            have HPX : Hid (PXs ZP) := Lib.hid (by rw [hZP]; exact ⟨pl_len _, pl_size _, pl_size' _, pl_one _⟩)
            have hbs : Below w9.heap.size w9 ((w9.alloc (.cells Z24.toArray 43)).setCells w9.heap.size 0 ZP) := below_setCells ZP (alloc_below _ _) (Nat.le_refl _)
            have HT24 : Hid ((w9.alloc (.cells Z24.toArray 43)).there w9.heap.size 0 ZP.toArray.size) := Lib.hid (blk_there (Blk.new w9 _ _) (by rw [List.size_toArray, HPX.out.1]; exact Nat.le_refl 24))
            have HE24 : Hid (Blk ((w9.alloc (.cells Z24.toArray 43)).setCells w9.heap.size 0 ZP) w9.heap.size 43 ZP.toArray ∧ Blk ((w9.alloc (.cells Z24.toArray 43)).setCells w9.heap.size 0 ZP) g22 56 Z.toArray ∧ Below w7.heap.size w7 ((w9.alloc (.cells Z24.toArray 43)).setCells w9.heap.size 0 ZP)) := Lib.hid ⟨blk_over (Blk.new w9 _ _) (by rw [HPX.out.1]; rfl), K22.out.keep (bthen b9 hbs), bthen HB3.out (bthen b9 hbs)⟩
            clear hZP b9 hbs cy hab HGe K22 HB3
            go_upto_region 35 with (refine wpList_store_mid rfl 43 (.tmp 24) (.tmp 131) rfl w9.heap.size 0 ZP.toArray rfl rfl HT24.out HPX.out.2.2.1 HPX.out.2.2.2 ?_)
            refine fin (fun W => Blk W w9.heap.size 43 ZP.toArray ∧ Blk W g22 56 Z.toArray ∧ Below w7.heap.size w7 W) HE24.out ?_
            clear HE24 HT24
            obtain ⟨g24, hg24⟩ : ∃ g, g = w9.heap.size := ⟨_, rfl⟩
            rw [← hg24]
            rintro W9 ⟨k24, k22, hb3⟩
            have K24 := Lib.hid k24
            have K22 := Lib.hid k22
            have HB3 := Lib.hid hb3
            clear k24 k22 hb3 hg24
            go_wp2
            go_loopw [26, 27] (fun v26 v27 wq => ∃ q : Nat, q ≤ n0 ∧ v27 = .int .i64 q ∧ v26 = .bool (sf q) ∧ Blk wq g24 43 ZP.toArray ∧ Blk wq g22 56 Z.toArray ∧ Below w7.heap.size w7 wq) (fun _ v27 _ => n0 - (intOf v27).toNat)
            case atStart => exact ⟨0, by omega, rfl, by rw [HSf.out], K24.out, K22.out, HB3.out⟩
            case round =>
              clear K24 K22 HB3
              obtain ⟨q, hq, rfl, rfl, k24, k22, hb3⟩ := hrel
              have K24 := Lib.hid k24
              have K22 := Lib.hid k22
              have HB3 := Lib.hid hb3
              clear k24 k22 hb3
              by_cases hqn : q < n0
              · have q0 : (0 : Int) ≤ (q : Int) := by omega
                have q1 : (q : Int) < (n0 : Int) := by omega
                obtain ⟨b8, o8, m8, rfl, hb8, hm8, hr8⟩ := (HW8.out.keep HB3.out).at_ hqn
                obtain ⟨b9, o9, m9, rfl, hb9, hm9, hr9⟩ := (HW9.out.keep HB3.out).at_ hqn
                obtain ⟨z, hz, rfl⟩ := map_at hm8
                obtain ⟨z', hz', rfl⟩ := map_at hm9
                rw [hz] at hz'
                injection hz' with hz'
                subst hz'
                have HAt := Lib.hid (HSt.out q z hz)
                have HEN : Hid (∀ w, (Op.equalIn 10000 56 (.agg (cNd (nodeX I0 z)).toArray) (.agg Z.toArray)).run Tryz.prog w = .ok (eqN (nodeX I0 z) nd) w) := Lib.hid (by rw [HZ.out]; exact eqNdF _ _)
                have HEP : Hid (∀ w, (Op.equalIn 10000 43 (.agg (pl (getP I0.S z)).toArray) (.agg ZP.toArray)).run Tryz.prog w = .ok (eqT (getP I0.S z) pp) w) := Lib.hid (by rw [HZP.out]; exact eqT_run _ _)
                have HSA : Hid ((Tryz.prog.info? 56).map (·.size) = some (cNd (nodeX I0 z)).length) := Lib.hid (nx_flow _).size
                have HSB : Hid ((Tryz.prog.info? 43).map (·.size) = some (pl (getP I0.S z)).length) := Lib.hid (pl_size _)
                obtain ⟨ZA, hZA⟩ : ∃ Z, Z = cNd (nodeX I0 z) := ⟨_, rfl⟩
                obtain ⟨ZB, hZB⟩ : ∃ Z, Z = pl (getP I0.S z) := ⟨_, rfl⟩
                obtain ⟨en, hen⟩ : ∃ en, en = eqN (nodeX I0 z) nd := ⟨_, rfl⟩
                obtain ⟨ep, hep⟩ : ∃ ep, ep = eqT (getP I0.S z) pp := ⟨_, rfl⟩
                rw [← hZA] at HEN HSA hr8
                rw [← hZB] at HEP HSB hr9
                rw [← hen] at HEN HAt
                rw [← hep] at HEP HAt
                have HSS : Hid (wr.drew.rangeAt b8 (o8 + q * 15) ZA ∧ wr.drew.rangeAt g22 0 Z ∧ wr.drew.rangeAt b9 (o9 + q * 24) ZB ∧ wr.drew.rangeAt g24 0 ZP) := Lib.hid ⟨hr8, blk_whole K22.out, hr9, blk_whole K24.out⟩
                have HE : Hid (Blk wr.drew g24 43 ZP.toArray ∧ Blk wr.drew g22 56 Z.toArray ∧ Below w7.heap.size w7 wr.drew) := Lib.hid ⟨K24.out.keep (drew_below _), K22.out.keep (drew_below _), bthen HB3.out (drew_below _)⟩
                obtain ⟨sm, hsm⟩ : ∃ sm, sm = sf q := ⟨_, rfl⟩
                rw [← hsm] at HAt ⊢
                clear hm8 hm9 hr8 hr9 hb8 hb9 hz hZA hZB hen hep hsm K24 K22 HB3
                go_upto_region 39 with fail
                refine told_r39 (g22 := g22) (g24 := g24) (b8 := b8) (o8 := o8) (b9 := b9) (o9 := o9) (n8 := n0) (q := q) (sm := sm) (en := en) (ep := ep) (XA := ZA) (XB := ZB) (XN := Z) (XP := ZP) (fun _ _ d _ _ h => by cases d <;> exact h) q0 q1 HSS.out HSA.out HNX.out.size HSB.out HPX.out.2.1 HEN.out HEP.out ?_
                intro W' z0 z1 z2 z3 z4 z5 z6 z7 z8 z9 z10 z11 z12 z13 z14 z15 z16 hW'
                rw [← hW'] at HE
                clear hW' HSS HEN HEP HSA HSB
                go_wp2
                go_roundw
                case rel => exact ⟨q + 1, by omega, by go_num, by rw [HAt.out], HE.out⟩
                case measure => simp [intOf] <;> omega
              · obtain rfl : q = n0 := by omega
                have HCw := Lib.hid (row_keep HCr.out HB3.out)
                obtain ⟨cy, hab⟩ := HCy.out wr HB3.out
                obtain ⟨sm, hsm⟩ : ∃ sm, sm = sf q := ⟨_, rfl⟩
                rw [← hsm] at HOr ⊢
                clear hsm K22 K24
                go_wp2_with fail
                refine (plhas_any ca nC ccap (chL X.S since) y wr HCw.out).mono ?_
                rintro e w9 ⟨rfl, rfl⟩
                clear HCw
                obtain ⟨td, htd⟩ : ∃ td, td = decide (y ∈ chL X.S since) := ⟨_, rfl⟩
                have HTT : Hid (sm = true ∨ td = true) := Lib.hid (HOr.out.imp id (fun c => by rw [htd]; simpa using c))
                rw [← htd]
                clear htd HOr
                cases sm with
                | true =>
                  go_wp2_with fail
                  refine (HHg.out _ HB3.out).mono ?_
                  rintro e w9 ⟨rfl, b9⟩
                  replace HB3 := Lib.hid (bthen HB3.out b9)
                  clear b9 cy hab
                  go_wp2
                  go_roundw
                  case rel => exact ⟨i + 1, by omega, by go_num, HB3.out⟩
                  case measure => simp [intOf] <;> omega
                | false =>
                  obtain rfl : td = true := HTT.out.elim (fun c => by cases c) id
                  go_wp2_with fail
                  refine (HHg.out _ HB3.out).mono ?_
                  rintro e w9 ⟨rfl, b9⟩
                  replace HB3 := Lib.hid (bthen HB3.out b9)
                  clear b9 cy hab
                  go_wp2
                  go_roundw
                  case rel => exact ⟨i + 1, by omega, by go_num, HB3.out⟩
                  case measure => simp [intOf] <;> omega
          · obtain rfl : i = nA := by omega
            clear hin
            go_wp2
            go_loopw [29, 30, 31] (fun v29 _ _ wq => ∃ q : Nat, q ≤ n0 ∧ v29 = .int .i64 q ∧ Below w7.heap.size w7 wq) (fun v29 _ _ _ => n0 - (intOf v29).toNat)
            case atStart => exact ⟨0, by omega, rfl, HB3.out⟩
            case round =>
              clear HB3
              obtain ⟨q, hq, rfl, hb3⟩ := hrel
              have HB3 := Lib.hid hb3
              clear hb3
              by_cases hqn : q < n0
              · have q0 : (0 : Int) ≤ (q : Int) := by omega
                have q1 : (q : Int) < (n0 : Int) := by omega
                obtain ⟨b8, o8, m8, rfl, hb8, hm8, hr8⟩ := (HW8.out.keep HB3.out).at_ hqn
                have c8 : wr.cell? ⟨b8, o8 + q * 15, none⟩ = some (.int .i64 m8.id) := hr8 0 _ rfl
                have HOr : Hid (m8.id ∈ alS X.S ∨ m8.id ∈ goL X.S since) := Lib.hid (by
                  obtain ⟨z, hz, rfl⟩ := map_at hm8
                  have hm := List.mem_of_getElem? hz
                  rw [node_id HW0.out hm]
                  exact ToldX.gone HW0.out HTd.out hm)
                obtain ⟨z, hz⟩ : ∃ z, z = m8.id := ⟨_, rfl⟩
                rw [← hz] at c8 HOr
                have HAw := Lib.hid (row_keep HAr.out HB3.out)
                have HGw := Lib.hid (row_keep HGr.out HB3.out)
                clear hz hm8 hr8
                go_wp2_with fail
                refine (plhas_any aa i acap (alS X.S) z wr HAw.out).mono ?_
                rintro e w9 ⟨rfl, rfl⟩
                go_wp2_with fail
                refine (plhas_any ga nG gcap (goL X.S since) z wr HGw.out).mono ?_
                rintro e w9 ⟨rfl, rfl⟩
                clear HAw HGw c8
                obtain ⟨t1, ht1⟩ : ∃ t1, t1 = decide (z ∈ alS X.S) := ⟨_, rfl⟩
                obtain ⟨t2, ht2⟩ : ∃ t2, t2 = decide (z ∈ goL X.S since) := ⟨_, rfl⟩
                have HTT : Hid (t1 = true ∨ t2 = true) := Lib.hid (HOr.out.imp (fun c => by rw [ht1]; simpa using c) (fun c => by rw [ht2]; simpa using c))
                rw [← ht1, ← ht2]
                clear ht1 ht2 HOr
                cases t1 with
                | true =>
                  go_wp2
                  go_roundw
                  case rel => exact ⟨q + 1, by omega, by go_num, HB3.out⟩
                  case measure => simp [intOf] <;> omega
                | false =>
                  obtain rfl : t2 = true := HTT.out.elim (fun c => by cases c) id
                  go_wp2
                  go_roundw
                  case rel => exact ⟨q + 1, by omega, by go_num, HB3.out⟩
                  case measure => simp [intOf] <;> omega
              · obtain rfl : q = n0 := by omega
                go_wp2_with fail
                refine (HAlive.out _).mono ?_
                rintro e w9 ⟨rfl, b9⟩
                replace HBel := Lib.hid (bthen (bthen HBel.out HB3.out) b9)
                clear b9
                go_wp2
                go_ret
                exact ⟨rfl, HBel.out⟩
end
end Go.Proofs.YtkondkajpmafkaaGreat
namespace Go.Proofs.YtkondkajpmafkaaGreat
open Go.ChangeShapes Go.WideShapes Go.ChangeAt Go.RowKit Go.Deep
set_option linter.unusedVariables false

instance : Inhabited A8 := ⟨⟨0, 0, false, 0, zT, none, 0, 0, []⟩⟩
section
variable {H : Type} {enc : TypeId × Value → H} {w : World} {base : Nat} {held : Bool}
theorem open_kinds8 {fuel : Nat} {cs : List Value} {x : DataW H × List MemPlace} (h : DataW.trod enc Tryz.prog w base (fun _ => true) held fuel 44 cs = some x) : ∃ a len cap zs, cs = [.slice a len cap] ∧ Row w a len zs := by
  rcases open_ints Tryz.underlying44 Tryz.underlying109 (by kernel_rfl) h with ⟨hcs, _⟩ | ⟨ad, l, c, zs, hcs, _, hl, hm, hz, _, hcell, hwz⟩
  · exact ⟨none, 0, 0, [], hcs, rfl, by omega, .inl rfl⟩
  · unfold maxLen at hm
    simp only [if_true] at hz
    refine ⟨some ad, l, c, zs.take l, hcs, by rw [List.length_take]; omega, by omega, ?_⟩
    by_cases h0 : l = 0
    · exact .inl h0
    · obtain ⟨b, off, spot⟩ := ad
      have hspot : spot = none := by simpa [Addr.add] using World.cell?_spot (hcell 0 (by omega))
      subst hspot
      refine .inr ⟨b, off, rfl, fun i hi => ?_⟩
      have := hcell i (by omega)
      rw [Addr.add_mid] at this
      rw [this]
      simp [hi]
end
end Go.Proofs.YtkondkajpmafkaaGreat
namespace Go.Proofs.YtkondkajpmafkaaGreat.storeTold
open Go.ChangeShapes Go.WideShapes Go.ChangeAt Go.RowKit Go.Deep
set_option linter.unusedVariables false
theorem own : ownKnob Tryz.prog.godebug = none := by kernel_rfl
section
variable {SB : World → Nat → (Nat → Prop) → St → Prop}
end
end Go.Proofs.YtkondkajpmafkaaGreat.storeTold
