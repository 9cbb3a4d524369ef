/-
  2 texts in one file, each with its own heading.
-/
import Derived.Test.YtkondkajpmafkaaGreatMP31
import Derived.Test.YtkondkajpmafkaaGreatMP36
/-
  The reference's scene: what its Node of layer 11 answers.
-/
namespace Go.Proofs.YtkondkajpmafkaaGreat
open Go.RowKit

structure NXs (X : List Value) (T : TypeId) : Prop where
  len : X.length = 15
  size : (Tryz.prog.info? T).map (·.size) = some X.length
  sizea : (Tryz.prog.info? T).map (·.size) = some X.toArray.size
  onea : X.toArray.all (·.oneCell') = true
def n0d : Nd := ⟨0, 0, fun _ => 0, false⟩
theorem nx_ref (n : Nd) : NXs (cNd n) 101 := ⟨rfl, by kernel_rfl, by kernel_rfl, all_oneCell_toArray (cNd_one n)⟩
theorem bldR_zero (W : World) : (Instr.build 101 #[]).run Tryz.prog W = .ok (.agg (cNd n0d).toArray) W := by kernel_rfl
theorem bldR_node (a b : Int) (M : Nat → Int) (W : World) : (Instr.build 101 #[(0, .int .i64 a), (1, .int .i64 b), (2, .agg (lM M).toArray)]).run Tryz.prog W = .ok (.agg (cNd ⟨a, b, M, false⟩).toArray) W := by kernel_rfl
theorem nd_par (n : Nd) (p : Int) : (cNd n).toArray.setIfInBounds 1 (.int .i64 p) = (cNd { n with par := p }).toArray := rfl
theorem nd_hid (n : Nd) (h : Bool) : (cNd n).toArray.setIfInBounds 14 (.bool h) = (cNd { n with hid := h }).toArray := rfl
theorem nd_pl (n : Nd) (M : Nat → Int) : splice (cNd n) 2 (lM M) = cNd { n with pl := M } := rfl
theorem rpar_rgb {sp : Value} {w : World} {g : Nat} {F : Nat → Prop} {L : FT} (h : RGB sp w g F L) (x : Int) : Calls Tryz.prog 44 #[.pointer (some ⟨g, 1, none⟩), .int .i64 x] w fun e w' => e = .returned (.tuple #[.int .i64 (parV (parO L x)), .bool (parO L x).isSome]) ∧ w = w' := by
  obtain ⟨v, h1, _⟩ := h
  exact sparent_any h1 x
theorem rget_rb {w : World} {g : Nat} {F : Nat → Prop} {S : St} (h : RB w g F S) (hW : WS S) (hB : Bd S 1000) (id : Int) : Calls Tryz.prog 42 #[.pointer (some ⟨g, 0, none⟩), .int .i64 id] w fun e w' => ∃ Y, e = .returned (.tuple #[.agg (List.toArray Y), .bool (getB S id)]) ∧ Y = pl (getP S id) ∧ Below w.heap.size w w' := by
  obtain ⟨tv, cv, gv, h1, hF⟩ := h
  exact rget_any h1 hW hB.2.2.1 id
set_option maxHeartbeats 16000000 in
set_option maxRecDepth 100000 in
theorem xnode_any {w : World} {g : Nat} {F : Nat → Prop} {X : Sc} (h0 : RSB w g F X) (hW : WX X) (hB : BSc X 900) (id : Int) :
    Calls Tryz.prog 45 #[.pointer (some ⟨g, 0, none⟩), .int .i64 id] w fun e w' => ∃ Y, e = .returned (.tuple #[.agg (List.toArray Y), .bool (getB X.S id)]) ∧ Y = cNd (nodeX X id) ∧ Below w.heap.size w w' := by
  obtain ⟨gs, h⟩ := h0.open_
  obtain ⟨P, hP⟩ : ∃ P, P = getP X.S id := ⟨_, rfl⟩
  obtain ⟨ok, hok⟩ : ∃ ok, ok = getB X.S id := ⟨_, rfl⟩
  have hN : nodeX X id = if ok then ⟨id, (parO X.L id).getD (-1), if hasB P.1 0 then P.2.1 else sameM, hasB P.1 4⟩ else n0d := by rw [hok, hP]; rfl
  have HRd : Hid (∀ u, Below w.heap.size w u → u.cell? ⟨g, 0, none⟩ = some (.pointer (some ⟨gs, 0, none⟩)) ∧ g < u.heap.size ∧ gs < u.heap.size) := Lib.hid (fun u q => (h.keep q).reads)
  have HGet : Hid (∀ u, Below w.heap.size w u → Calls Tryz.prog 42 #[.pointer (some ⟨gs, 0, none⟩), .int .i64 id] u fun e w' => e = .returned (.tuple #[.agg (pl P).toArray, .bool ok]) ∧ Below u.heap.size u w') := Lib.hid (fun u q => by
    obtain ⟨Fs, _, _, hS⟩ := h.withS
    exact (rget_rb (hS u q).1 hW.ws (hB.bd.mono (by omega)) id).mono fun e w' ⟨Y, k1, k2, k3⟩ => ⟨by rw [k1, k2, hP, hok], k3⟩)
  obtain ⟨o, ho⟩ : ∃ o, o = parO X.L id := ⟨_, rfl⟩
  have HPar : Hid (∀ u, Below w.heap.size w u → Calls Tryz.prog 44 #[.pointer (some ⟨g, 1, none⟩), .int .i64 id] u fun e w' => e = .returned (.tuple #[.int .i64 (parV o), .bool o.isSome]) ∧ u = w') := Lib.hid (fun u q => by
    obtain ⟨Ff, _, _, hF⟩ := h.withF
    rw [ho]
    exact rpar_rgb (hF u q).1 id)
  obtain ⟨is, his⟩ : ∃ is, is = o.isSome := ⟨_, rfl⟩
  obtain ⟨pv, hpv⟩ : ∃ pv, pv = parV o := ⟨_, rfl⟩
  obtain ⟨up, hup⟩ : ∃ up, up = o.getD (-1) := ⟨_, rfl⟩
  have HUp : Hid ((is = false ∧ up = -1) ∨ (is = true ∧ up = pv)) := Lib.hid (by
    rw [his, hup, hpv]
    cases o with
    | none => exact Or.inl ⟨rfl, rfl⟩
    | some y => exact Or.inr ⟨rfl, rfl⟩)
  rw [← ho, ← hup] at hN
  rw [← his, ← hpv] at HPar
  rw [← hok]
  have HSame : Hid (∀ u, Calls Tryz.prog 80 #[] u fun e w' => e = .returned (.agg (lM sameM).toArray) ∧ Below u.heap.size u w') := Lib.hid (fun u => rsame_any u)
  obtain ⟨hs, hhs⟩ : ∃ hs, hs = P.1 := ⟨_, rfl⟩
  obtain ⟨pb, hpb⟩ : ∃ pb, pb = hasB P.1 0 := ⟨_, rfl⟩
  obtain ⟨hb, hhb⟩ : ∃ hb, hb = hasB P.1 4 := ⟨_, rfl⟩
  have HH0 : Hid (∀ u, Calls Tryz.prog 81 #[.int .i64 hs, .int .i64 0] u fun e w' => e = .returned (.bool pb) ∧ u = w') := Lib.hid (fun u => by rw [hpb, hhs]; exact rhas_any _ _ u)
  have HH4 : Hid (∀ u, Calls Tryz.prog 81 #[.int .i64 hs, .int .i64 4] u fun e w' => e = .returned (.bool hb) ∧ u = w') := Lib.hid (fun u => by rw [hhb, hhs]; exact rhas_any _ _ u)
  rw [← hpb, ← hhb] at hN
  have HPX : Hid (PXs (pl P)) := Lib.hid ⟨pl_len _, pl_size _, pl_size' _, pl_one _⟩
  obtain ⟨M, hM⟩ : ∃ M, M = P.2.1 := ⟨_, rfl⟩
  rw [← hM] at hN
  have HPC : Hid (∀ W gg, Blk W gg 43 (pl P).toArray → W.cell? ⟨gg, 0, none⟩ = some (.int .i64 hs) ∧ W.rangeAt gg 1 (lM M)) := Lib.hid (fun W gg k => ⟨by rw [hhs]; exact k.cell 0, by rw [hM]; exact blk_range k 1 12⟩)
  have HMX := Lib.hid (mx_any M)
  obtain ⟨XP, hXP⟩ : ∃ XP, XP = pl P := ⟨_, rfl⟩
  rw [← hXP] at HGet HPX HPC
  have HN := Lib.hid hN
  have HZ := Lib.hid (nx_ref n0d)
  have HBz := Lib.hid bldR_zero
  have HBn : Hid (∀ W, (Instr.build 101 #[(0, .int .i64 id), (1, .int .i64 (-1)), (2, .agg (lM sameM).toArray)]).run Tryz.prog W = .ok (.agg (cNd ⟨id, -1, sameM, false⟩).toArray) W) := Lib.hid (bldR_node id (-1) sameM)
  have HX1 := Lib.hid (nx_ref ⟨id, -1, sameM, false⟩)
  have HXf : Hid (∀ n, NXs (cNd n) 101) := Lib.hid nx_ref
  have KZ := Lib.hid (Blk.new w 101 (cNd n0d).toArray)
  have HB0 : Hid (Below w.heap.size w (w.alloc (.cells (cNd n0d).toArray 101))) := Lib.hid (alloc_below _ _)
  obtain ⟨XS, hXS⟩ : ∃ XS, XS = lM sameM := ⟨_, rfl⟩
  rw [← hXS] at HSame HBn
  have HXS := Lib.hid hXS
  obtain ⟨X1, hX1⟩ : ∃ X1, X1 = cNd ⟨id, -1, sameM, false⟩ := ⟨_, rfl⟩
  rw [← hX1] at HBn HX1
  have HX1e := Lib.hid hX1
  obtain ⟨ML, hML⟩ : ∃ ML, ML = lM M := ⟨_, rfl⟩
  rw [← hML] at HPC HMX
  have HMLe := Lib.hid hML
  clear h0 h hW hB hP hok hN ho his hpv hup hhs hpb hhb hM hXP hXS hX1 hML
  go_enter Tryz.func45, Tryz.ntmps45
  go_upto_region 1 with fail
  refine fin (fun W => Blk W w.heap.size 101 (cNd n0d).toArray ∧ Below w.heap.size w W) ⟨KZ.out, HB0.out⟩ ?_
  clear KZ HB0
  obtain ⟨XZ, hXZ⟩ : ∃ XZ, XZ = cNd n0d := ⟨_, rfl⟩
  rw [← hXZ] at HZ HBz
  rintro W ⟨kz, hbl⟩
  rw [← hXZ] at kz
  have HZe := Lib.hid hXZ
  have KZ := Lib.hid kz
  have HB := Lib.hid hbl
  obtain ⟨c0, hg, hgs⟩ := HRd.out W hbl
  clear kz hbl hXZ
  go_wp2_with fail
  refine (HGet.out W HB.out).mono ?_
  rintro e w1 ⟨rfl, b1⟩
  have z4 : w.heap.size < w1.heap.size := Nat.lt_of_lt_of_le KZ.out.lt b1.size
  replace KZ := Lib.hid (KZ.out.keep b1)
  replace HB := Lib.hid (bthen HB.out b1)
  have hal : Below w1.heap.size w1 (w1.alloc (.cells Z24.toArray 43)) := alloc_below _ _
  have hbs : Below w1.heap.size w1 ((w1.alloc (.cells Z24.toArray 43)).setCells w1.heap.size 0 XP) := below_setCells XP hal (Nat.le_refl _)
  have HT6 : Hid ((w1.alloc (.cells Z24.toArray 43)).there w1.heap.size 0 XP.toArray.size) := Lib.hid (blk_there (Blk.new w1 _ _) (by rw [List.size_toArray, HPX.out.1]; exact Nat.le_refl 24))
  have HE6 : Hid (Blk ((w1.alloc (.cells Z24.toArray 43)).setCells w1.heap.size 0 XP) w1.heap.size 43 XP.toArray ∧ Blk ((w1.alloc (.cells Z24.toArray 43)).setCells w1.heap.size 0 XP) w.heap.size 101 XZ.toArray ∧ Below w.heap.size w ((w1.alloc (.cells Z24.toArray 43)).setCells w1.heap.size 0 XP)) := Lib.hid ⟨blk_over (Blk.new w1 _ _) (by rw [HPX.out.1]; rfl), KZ.out.keep hbs, bthen HB.out hbs⟩
  clear b1 hal hbs c0 hg hgs HGet
  go_upto_region 2 with (refine wpList_store_mid rfl 43 (.tmp 6) (.tmp 19) rfl w1.heap.size 0 XP.toArray rfl rfl HT6.out HPX.out.2.2.1 HPX.out.2.2.2 ?_)
  refine fin (fun W => Blk W w1.heap.size 43 XP.toArray ∧ Blk W w.heap.size 101 XZ.toArray ∧ Below w.heap.size w W) HE6.out ?_
  clear HE6 HT6 KZ HB
  obtain ⟨g6, hg6⟩ : ∃ g6, g6 = w1.heap.size := ⟨_, rfl⟩
  rw [← hg6] at z4 ⊢
  rintro W2 ⟨k6, k4, hbl⟩
  have K6 := Lib.hid k6
  have K4 := Lib.hid k4
  have HB := Lib.hid hbl
  clear k6 k4 hbl hg6
  cases ok with
  | false =>
    have HNe : Hid (nodeX X id = n0d) := Lib.hid (by rw [HN.out]; rfl)
    have HT4 : Hid (W2.there w.heap.size 0 XZ.toArray.size) := Lib.hid (blk_there K4.out (by rw [List.size_toArray]; omega))
    have L4 : Hid (Blk (W2.setCells w.heap.size 0 XZ) w.heap.size 101 XZ.toArray) := Lib.hid (blk_over K4.out rfl)
    go_wp2_with (first | refine wpList_bldz rfl 101 rfl (.agg XZ.toArray) HBz.out ?_ | refine wpList_store_mid rfl 101 (.tmp 4) (.tmp 23) rfl w.heap.size 0 XZ.toArray rfl rfl HT4.out HZ.out.sizea HZ.out.onea ?_)
    refine fin (fun W => Blk W w.heap.size 101 XZ.toArray ∧ Below w.heap.size w W) ⟨L4.out, below_setCells _ HB.out (Nat.le_refl _)⟩ ?_
    rintro W3 ⟨kr, hbl⟩
    have hl := run_loadVar_mid W3 w.heap.size 0 101 XZ _ (blk_whole kr) Tryz.underlying101 rfl HZ.out.size
    try simp only [Go.Act.put, List.setIfInBounds_toArray, List.set_cons_zero, List.set_cons_succ]
    exact bodyPost_ret (v := .tuple #[.agg XZ.toArray, .bool false]) (results_cell2 Tryz.results45 rfl rfl hl) rfl ⟨XZ, rfl, by rw [HNe.out, HZe.out], hbl⟩
  | true =>
    go_wp2_with fail
    refine (HSame.out _).mono ?_
    rintro e w3 ⟨rfl, b1⟩
    replace K6 := Lib.hid (K6.out.keep b1)
    replace K4 := Lib.hid (K4.out.keep b1)
    replace HB := Lib.hid (bthen HB.out b1)
    have z6 := K6.out.lt
    have hal : Below w3.heap.size w3 (w3.alloc (.cells (cNd n0d).toArray 101)) := alloc_below _ _
    have hbs : Below w3.heap.size w3 ((w3.alloc (.cells (cNd n0d).toArray 101)).setCells w3.heap.size 0 X1) := below_setCells X1 hal (Nat.le_refl _)
    have HT8 : Hid ((w3.alloc (.cells (cNd n0d).toArray 101)).there w3.heap.size 0 X1.toArray.size) := Lib.hid (blk_there (Blk.new w3 _ _) (by rw [List.size_toArray, HX1.out.len]; exact Nat.le_refl 15))
    have HE8 : Hid (Blk ((w3.alloc (.cells (cNd n0d).toArray 101)).setCells w3.heap.size 0 X1) w3.heap.size 101 (cNd ⟨id, -1, sameM, false⟩).toArray ∧ Blk ((w3.alloc (.cells (cNd n0d).toArray 101)).setCells w3.heap.size 0 X1) g6 43 XP.toArray ∧ Blk ((w3.alloc (.cells (cNd n0d).toArray 101)).setCells w3.heap.size 0 X1) w.heap.size 101 XZ.toArray ∧ Below w.heap.size w ((w3.alloc (.cells (cNd n0d).toArray 101)).setCells w3.heap.size 0 X1)) := Lib.hid ⟨by rw [← HX1e.out]; exact blk_over (Blk.new w3 _ _) (by rw [HX1.out.len]; rfl), K6.out.keep hbs, K4.out.keep hbs, bthen HB.out hbs⟩
    clear b1 hal hbs HSame
    go_upto_region 5 with (first | refine wpList_bld3f rfl 101 (.tmp 24) (.const (.int .i64 (-1))) (.tmp 25) rfl (.int .i64 id) (.int .i64 (-1)) (.agg XS.toArray) (.agg X1.toArray) rfl rfl rfl HBn.out ?_ | refine wpList_store_mid rfl 101 (.tmp 8) (.tmp 26) rfl w3.heap.size 0 X1.toArray rfl rfl HT8.out HX1.out.sizea HX1.out.onea ?_)
    refine fin (fun W => Blk W w3.heap.size 101 (cNd ⟨id, -1, sameM, false⟩).toArray ∧ Blk W g6 43 XP.toArray ∧ Blk W w.heap.size 101 XZ.toArray ∧ Below w.heap.size w W) HE8.out ?_
    clear HE8 HT8 K6 K4 HB
    obtain ⟨g8, hg8⟩ : ∃ g8, g8 = w3.heap.size := ⟨_, rfl⟩
    rw [← hg8] at z6 ⊢
    rintro W3 ⟨k8, k6, k4, hbl⟩
    have K8 := Lib.hid k8
    have K6 := Lib.hid k6
    have K4 := Lib.hid k4
    have HB := Lib.hid hbl
    obtain ⟨c0, hg, hgs⟩ := HRd.out W3 hbl
    have HNe68 : Hid (g6 < g8) := Lib.hid z6
    have HNe8 : Hid (w.heap.size < g8) := Lib.hid (by omega)
    clear k8 k6 k4 hbl hg8
    go_wp2_with fail
    refine (HPar.out W3 HB.out).mono ?_
    rintro e w4 ⟨rfl, rfl⟩
    clear c0 hg hgs HPar HRd
    rcases HUp.out with ⟨rfl, hup⟩ | ⟨rfl, hup⟩
    · have HE7 : Hid (Blk W3 g8 101 (cNd ⟨id, up, sameM, false⟩).toArray ∧ Blk W3 g6 43 XP.toArray ∧ Blk W3 w.heap.size 101 XZ.toArray ∧ Below w.heap.size w W3) := Lib.hid ⟨by rw [hup]; exact K8.out, K6.out, K4.out, HB.out⟩
      clear HUp hup
      go_upto_region 8 with fail
      refine fin (fun W => Blk W g8 101 (cNd ⟨id, up, sameM, false⟩).toArray ∧ Blk W g6 43 XP.toArray ∧ Blk W w.heap.size 101 XZ.toArray ∧ Below w.heap.size w W) HE7.out ?_
      clear HE7 K8 K6 K4 HB
      rintro W5 ⟨k8, k6, k4, hbl⟩
      have K8 := Lib.hid k8
      have K6 := Lib.hid k6
      have K4 := Lib.hid k4
      have HB := Lib.hid hbl
      clear k8 k6 k4 hbl
      obtain ⟨c6, r6⟩ := HPC.out _ g6 K6.out
      have HR6 := Lib.hid r6
      have z6 := K6.out.lt
      have z8 := K8.out.lt
      clear r6
      go_wp2_with fail
      refine (HH0.out _).mono ?_
      rintro e w5 ⟨rfl, rfl⟩
      clear HH0 c6
      cases pb with
      | false =>
        go_upto_region 11 with fail
        have HNe : Hid (nodeX X id = ⟨id, up, sameM, hb⟩) := Lib.hid (by rw [HN.out]; rfl)
        obtain ⟨c6, -⟩ := HPC.out _ g6 K6.out
        have z6 := K6.out.lt
        have z8 := K8.out.lt
        have c14 := K8.out.cell 14
        have f14 := K8.out.frozen 14
        go_wp2_with fail
        refine (HH4.out _).mono ?_
        rintro e w6 ⟨rfl, rfl⟩
        have HE9 : Hid (Blk (W5.setCell ⟨g8, 14, none⟩ (.bool hb)) g8 101 (cNd ⟨id, up, sameM, hb⟩).toArray ∧ Blk (W5.setCell ⟨g8, 14, none⟩ (.bool hb)) w.heap.size 101 XZ.toArray ∧ Below w.heap.size w (W5.setCell ⟨g8, 14, none⟩ (.bool hb))) := Lib.hid ⟨by have := K8.out.set_ 14 (.bool hb); rw [nd_hid] at this; exact this, K4.out.same (Go.Deep.blk_setCell_other _ _ _ _ (by show w.heap.size ≠ g8; have := HNe8.out; omega)), HB.out.setCell (p := ⟨g8, 14, none⟩) (by have := HNe8.out; exact Nat.le_of_lt this) _⟩
        clear c6 z6 HH4
        go_upto_region 12 with fail
        refine fin (fun W => Blk W g8 101 (cNd ⟨id, up, sameM, hb⟩).toArray ∧ Blk W w.heap.size 101 XZ.toArray ∧ Below w.heap.size w W) HE9.out ?_
        clear HE9 K8 K4 HB K6 z8 c14 f14
        obtain ⟨X2, hX2⟩ : ∃ X2, X2 = cNd ⟨id, up, sameM, hb⟩ := ⟨_, rfl⟩
        have HX2 := Lib.hid (HXf.out ⟨id, up, sameM, hb⟩)
        rw [← hX2] at HX2 ⊢
        have HX2e := Lib.hid hX2
        clear hX2
        rintro W9 ⟨k8, k4, hbl⟩
        have HR8 := Lib.hid (blk_whole k8)
        have HT4 : Hid (W9.there w.heap.size 0 X2.toArray.size) := Lib.hid (blk_there k4 (by rw [List.size_toArray, HX2.out.len, HZ.out.len]; omega))
        have L4 : Hid (Blk (W9.setCells w.heap.size 0 X2) w.heap.size 101 X2.toArray) := Lib.hid (blk_over k4 (by rw [HX2.out.len, HZ.out.len]))
        have HB9 := Lib.hid hbl
        clear k8 k4 hbl
        go_wp2_with (first | refine wpList_load_mid rfl 101 (.tmp 8) rfl g8 0 rfl X2 _ HR8.out Tryz.underlying101 rfl HX2.out.size ?_ | refine wpList_store_mid rfl 101 (.tmp 4) (.tmp 49) rfl w.heap.size 0 X2.toArray rfl rfl HT4.out HX2.out.sizea HX2.out.onea ?_)
        refine fin (fun W => Blk W w.heap.size 101 X2.toArray ∧ Below w.heap.size w W) ⟨L4.out, below_setCells _ HB9.out (Nat.le_refl _)⟩ ?_
        rintro W3 ⟨kr, hbl⟩
        have hl := run_loadVar_mid W3 w.heap.size 0 101 X2 _ (blk_whole kr) Tryz.underlying101 rfl HX2.out.size
        try simp only [Go.Act.put, List.setIfInBounds_toArray, List.set_cons_zero, List.set_cons_succ]
        exact bodyPost_ret (v := .tuple #[.agg X2.toArray, .bool true]) (results_cell2 Tryz.results45 rfl rfl hl) rfl ⟨X2, rfl, by rw [HNe.out, HX2e.out], hbl⟩
      | true =>
        have HT8 : Hid (W5.there g8 2 ML.toArray.size) := Lib.hid (blk_there K8.out (by rw [List.size_toArray, HMX.out.len, cNd_len]; omega))
        have HE9 : Hid (Blk (W5.setCells g8 2 ML) g8 101 (cNd ⟨id, up, M, false⟩).toArray ∧ Blk (W5.setCells g8 2 ML) g6 43 XP.toArray ∧ Blk (W5.setCells g8 2 ML) w.heap.size 101 XZ.toArray ∧ Below w.heap.size w (W5.setCells g8 2 ML)) := Lib.hid ⟨by
          have := blk_setCells ML (o := 2) K8.out (by rw [HMX.out.len, cNd_len]; omega)
          rw [HMLe.out, nd_pl] at this
          rw [HMLe.out]
          exact this, blk_setFar ML K6.out (by have := HNe68.out; omega), blk_setFar ML K4.out (by have := HNe8.out; omega), below_setCells ML HB.out (by have := HNe8.out; exact Nat.le_of_lt this)⟩
        go_upto_region 11 with (first | refine wpList_load_mid rfl 37 (.tmp 42) rfl g6 1 rfl ML _ HR6.out Tryz.underlying37 rfl HMX.out.size ?_ | refine wpList_store_mid rfl 37 (.tmp 44) (.tmp 43) rfl g8 2 ML.toArray rfl rfl HT8.out HMX.out.sizea HMX.out.onea ?_)
        refine fin (fun W => Blk W g8 101 (cNd ⟨id, up, M, false⟩).toArray ∧ Blk W g6 43 XP.toArray ∧ Blk W w.heap.size 101 XZ.toArray ∧ Below w.heap.size w W) HE9.out ?_
        clear HE9 HT8 K8 K6 K4 HB HR6 z6 z8
        rintro W6 ⟨k8, k6, k4, hbl⟩
        have K8 := Lib.hid k8
        have K6 := Lib.hid k6
        have K4 := Lib.hid k4
        have HB := Lib.hid hbl
        clear k8 k6 k4 hbl
        have HNe : Hid (nodeX X id = ⟨id, up, M, hb⟩) := Lib.hid (by rw [HN.out]; rfl)
        obtain ⟨c6, -⟩ := HPC.out _ g6 K6.out
        have z6 := K6.out.lt
        have z8 := K8.out.lt
        have c14 := K8.out.cell 14
        have f14 := K8.out.frozen 14
        go_wp2_with fail
        refine (HH4.out _).mono ?_
        rintro e w6 ⟨rfl, rfl⟩
        have HE9 : Hid (Blk (W6.setCell ⟨g8, 14, none⟩ (.bool hb)) g8 101 (cNd ⟨id, up, M, hb⟩).toArray ∧ Blk (W6.setCell ⟨g8, 14, none⟩ (.bool hb)) w.heap.size 101 XZ.toArray ∧ Below w.heap.size w (W6.setCell ⟨g8, 14, none⟩ (.bool hb))) := Lib.hid ⟨by have := K8.out.set_ 14 (.bool hb); rw [nd_hid] at this; exact this, K4.out.same (Go.Deep.blk_setCell_other _ _ _ _ (by show w.heap.size ≠ g8; have := HNe8.out; omega)), HB.out.setCell (p := ⟨g8, 14, none⟩) (by have := HNe8.out; exact Nat.le_of_lt this) _⟩
        clear c6 z6 HH4
        go_upto_region 12 with fail
        refine fin (fun W => Blk W g8 101 (cNd ⟨id, up, M, hb⟩).toArray ∧ Blk W w.heap.size 101 XZ.toArray ∧ Below w.heap.size w W) HE9.out ?_
        clear HE9 K8 K4 HB K6 z8 c14 f14
        obtain ⟨X2, hX2⟩ : ∃ X2, X2 = cNd ⟨id, up, M, hb⟩ := ⟨_, rfl⟩
        have HX2 := Lib.hid (HXf.out ⟨id, up, M, hb⟩)
        rw [← hX2] at HX2 ⊢
        have HX2e := Lib.hid hX2
        clear hX2
        rintro W9 ⟨k8, k4, hbl⟩
        have HR8 := Lib.hid (blk_whole k8)
        have HT4 : Hid (W9.there w.heap.size 0 X2.toArray.size) := Lib.hid (blk_there k4 (by rw [List.size_toArray, HX2.out.len, HZ.out.len]; omega))
        have L4 : Hid (Blk (W9.setCells w.heap.size 0 X2) w.heap.size 101 X2.toArray) := Lib.hid (blk_over k4 (by rw [HX2.out.len, HZ.out.len]))
        have HB9 := Lib.hid hbl
        clear k8 k4 hbl
        go_wp2_with (first | refine wpList_load_mid rfl 101 (.tmp 8) rfl g8 0 rfl X2 _ HR8.out Tryz.underlying101 rfl HX2.out.size ?_ | refine wpList_store_mid rfl 101 (.tmp 4) (.tmp 49) rfl w.heap.size 0 X2.toArray rfl rfl HT4.out HX2.out.sizea HX2.out.onea ?_)
        refine fin (fun W => Blk W w.heap.size 101 X2.toArray ∧ Below w.heap.size w W) ⟨L4.out, below_setCells _ HB9.out (Nat.le_refl _)⟩ ?_
        rintro W3 ⟨kr, hbl⟩
        have hl := run_loadVar_mid W3 w.heap.size 0 101 X2 _ (blk_whole kr) Tryz.underlying101 rfl HX2.out.size
        try simp only [Go.Act.put, List.setIfInBounds_toArray, List.set_cons_zero, List.set_cons_succ]
        exact bodyPost_ret (v := .tuple #[.agg X2.toArray, .bool true]) (results_cell2 Tryz.results45 rfl rfl hl) rfl ⟨X2, rfl, by rw [HNe.out, HX2e.out], hbl⟩
    · have c1 := K8.out.cell 1
      have f1 := K8.out.frozen 1
      have z8 := K8.out.lt
      have HE7 : Hid (Blk (W3.setCell ⟨g8, 1, none⟩ (.int .i64 pv)) g8 101 (cNd ⟨id, up, sameM, false⟩).toArray ∧ Blk (W3.setCell ⟨g8, 1, none⟩ (.int .i64 pv)) g6 43 XP.toArray ∧ Blk (W3.setCell ⟨g8, 1, none⟩ (.int .i64 pv)) w.heap.size 101 XZ.toArray ∧ Below w.heap.size w (W3.setCell ⟨g8, 1, none⟩ (.int .i64 pv))) := Lib.hid ⟨by have := K8.out.set_ 1 (.int .i64 pv); rw [nd_par] at this; rw [hup]; exact this, K6.out.same (Go.Deep.blk_setCell_other _ _ _ _ (by show g6 ≠ g8; have := HNe68.out; omega)), K4.out.same (Go.Deep.blk_setCell_other _ _ _ _ (by show w.heap.size ≠ g8; have := HNe8.out; omega)), HB.out.setCell (p := ⟨g8, 1, none⟩) (by have := HNe8.out; exact Nat.le_of_lt this) _⟩
      clear HUp hup
      go_upto_region 8 with fail
      clear c1 f1 z8
      refine fin (fun W => Blk W g8 101 (cNd ⟨id, up, sameM, false⟩).toArray ∧ Blk W g6 43 XP.toArray ∧ Blk W w.heap.size 101 XZ.toArray ∧ Below w.heap.size w W) HE7.out ?_
      clear HE7 K8 K6 K4 HB
      rintro W5 ⟨k8, k6, k4, hbl⟩
      have K8 := Lib.hid k8
      have K6 := Lib.hid k6
      have K4 := Lib.hid k4
      have HB := Lib.hid hbl
      clear k8 k6 k4 hbl
      obtain ⟨c6, r6⟩ := HPC.out _ g6 K6.out
      have HR6 := Lib.hid r6
      have z6 := K6.out.lt
      have z8 := K8.out.lt
      clear r6
      go_wp2_with fail
      refine (HH0.out _).mono ?_
      rintro e w5 ⟨rfl, rfl⟩
      clear HH0 c6
      cases pb with
      | false =>
        go_upto_region 11 with fail
        have HNe : Hid (nodeX X id = ⟨id, up, sameM, hb⟩) := Lib.hid (by rw [HN.out]; rfl)
        obtain ⟨c6, -⟩ := HPC.out _ g6 K6.out
        have z6 := K6.out.lt
        have z8 := K8.out.lt
        have c14 := K8.out.cell 14
        have f14 := K8.out.frozen 14
        go_wp2_with fail
        refine (HH4.out _).mono ?_
        rintro e w6 ⟨rfl, rfl⟩
        have HE9 : Hid (Blk (W5.setCell ⟨g8, 14, none⟩ (.bool hb)) g8 101 (cNd ⟨id, up, sameM, hb⟩).toArray ∧ Blk (W5.setCell ⟨g8, 14, none⟩ (.bool hb)) w.heap.size 101 XZ.toArray ∧ Below w.heap.size w (W5.setCell ⟨g8, 14, none⟩ (.bool hb))) := Lib.hid ⟨by have := K8.out.set_ 14 (.bool hb); rw [nd_hid] at this; exact this, K4.out.same (Go.Deep.blk_setCell_other _ _ _ _ (by show w.heap.size ≠ g8; have := HNe8.out; omega)), HB.out.setCell (p := ⟨g8, 14, none⟩) (by have := HNe8.out; exact Nat.le_of_lt this) _⟩
        clear c6 z6 HH4
        go_upto_region 12 with fail
        refine fin (fun W => Blk W g8 101 (cNd ⟨id, up, sameM, hb⟩).toArray ∧ Blk W w.heap.size 101 XZ.toArray ∧ Below w.heap.size w W) HE9.out ?_
        clear HE9 K8 K4 HB K6 z8 c14 f14
        obtain ⟨X2, hX2⟩ : ∃ X2, X2 = cNd ⟨id, up, sameM, hb⟩ := ⟨_, rfl⟩
        have HX2 := Lib.hid (HXf.out ⟨id, up, sameM, hb⟩)
        rw [← hX2] at HX2 ⊢
        have HX2e := Lib.hid hX2
        clear hX2
        rintro W9 ⟨k8, k4, hbl⟩
        have HR8 := Lib.hid (blk_whole k8)
        have HT4 : Hid (W9.there w.heap.size 0 X2.toArray.size) := Lib.hid (blk_there k4 (by rw [List.size_toArray, HX2.out.len, HZ.out.len]; omega))
        have L4 : Hid (Blk (W9.setCells w.heap.size 0 X2) w.heap.size 101 X2.toArray) := Lib.hid (blk_over k4 (by rw [HX2.out.len, HZ.out.len]))
        have HB9 := Lib.hid hbl
        clear k8 k4 hbl
        go_wp2_with (first | refine wpList_load_mid rfl 101 (.tmp 8) rfl g8 0 rfl X2 _ HR8.out Tryz.underlying101 rfl HX2.out.size ?_ | refine wpList_store_mid rfl 101 (.tmp 4) (.tmp 49) rfl w.heap.size 0 X2.toArray rfl rfl HT4.out HX2.out.sizea HX2.out.onea ?_)
        refine fin (fun W => Blk W w.heap.size 101 X2.toArray ∧ Below w.heap.size w W) ⟨L4.out, below_setCells _ HB9.out (Nat.le_refl _)⟩ ?_
        rintro W3 ⟨kr, hbl⟩
        have hl := run_loadVar_mid W3 w.heap.size 0 101 X2 _ (blk_whole kr) Tryz.underlying101 rfl HX2.out.size
        try simp only [Go.Act.put, List.setIfInBounds_toArray, List.set_cons_zero, List.set_cons_succ]
        exact bodyPost_ret (v := .tuple #[.agg X2.toArray, .bool true]) (results_cell2 Tryz.results45 rfl rfl hl) rfl ⟨X2, rfl, by rw [HNe.out, HX2e.out], hbl⟩
      | true =>
        have HT8 : Hid (W5.there g8 2 ML.toArray.size) := Lib.hid (blk_there K8.out (by rw [List.size_toArray, HMX.out.len, cNd_len]; omega))
        have HE9 : Hid (Blk (W5.setCells g8 2 ML) g8 101 (cNd ⟨id, up, M, false⟩).toArray ∧ Blk (W5.setCells g8 2 ML) g6 43 XP.toArray ∧ Blk (W5.setCells g8 2 ML) w.heap.size 101 XZ.toArray ∧ Below w.heap.size w (W5.setCells g8 2 ML)) := Lib.hid ⟨by
          have := blk_setCells ML (o := 2) K8.out (by rw [HMX.out.len, cNd_len]; omega)
          rw [HMLe.out, nd_pl] at this
          rw [HMLe.out]
          exact this, blk_setFar ML K6.out (by have := HNe68.out; omega), blk_setFar ML K4.out (by have := HNe8.out; omega), below_setCells ML HB.out (by have := HNe8.out; exact Nat.le_of_lt this)⟩
        go_upto_region 11 with (first | refine wpList_load_mid rfl 37 (.tmp 42) rfl g6 1 rfl ML _ HR6.out Tryz.underlying37 rfl HMX.out.size ?_ | refine wpList_store_mid rfl 37 (.tmp 44) (.tmp 43) rfl g8 2 ML.toArray rfl rfl HT8.out HMX.out.sizea HMX.out.onea ?_)
        refine fin (fun W => Blk W g8 101 (cNd ⟨id, up, M, false⟩).toArray ∧ Blk W g6 43 XP.toArray ∧ Blk W w.heap.size 101 XZ.toArray ∧ Below w.heap.size w W) HE9.out ?_
        clear HE9 HT8 K8 K6 K4 HB HR6 z6 z8
        rintro W6 ⟨k8, k6, k4, hbl⟩
        have K8 := Lib.hid k8
        have K6 := Lib.hid k6
        have K4 := Lib.hid k4
        have HB := Lib.hid hbl
        clear k8 k6 k4 hbl
        have HNe : Hid (nodeX X id = ⟨id, up, M, hb⟩) := Lib.hid (by rw [HN.out]; rfl)
        obtain ⟨c6, -⟩ := HPC.out _ g6 K6.out
        have z6 := K6.out.lt
        have z8 := K8.out.lt
        have c14 := K8.out.cell 14
        have f14 := K8.out.frozen 14
        go_wp2_with fail
        refine (HH4.out _).mono ?_
        rintro e w6 ⟨rfl, rfl⟩
        have HE9 : Hid (Blk (W6.setCell ⟨g8, 14, none⟩ (.bool hb)) g8 101 (cNd ⟨id, up, M, hb⟩).toArray ∧ Blk (W6.setCell ⟨g8, 14, none⟩ (.bool hb)) w.heap.size 101 XZ.toArray ∧ Below w.heap.size w (W6.setCell ⟨g8, 14, none⟩ (.bool hb))) := Lib.hid ⟨by have := K8.out.set_ 14 (.bool hb); rw [nd_hid] at this; exact this, K4.out.same (Go.Deep.blk_setCell_other _ _ _ _ (by show w.heap.size ≠ g8; have := HNe8.out; omega)), HB.out.setCell (p := ⟨g8, 14, none⟩) (by have := HNe8.out; exact Nat.le_of_lt this) _⟩
        clear c6 z6 HH4
        go_upto_region 12 with fail
        refine fin (fun W => Blk W g8 101 (cNd ⟨id, up, M, hb⟩).toArray ∧ Blk W w.heap.size 101 XZ.toArray ∧ Below w.heap.size w W) HE9.out ?_
        clear HE9 K8 K4 HB K6 z8 c14 f14
        obtain ⟨X2, hX2⟩ : ∃ X2, X2 = cNd ⟨id, up, M, hb⟩ := ⟨_, rfl⟩
        have HX2 := Lib.hid (HXf.out ⟨id, up, M, hb⟩)
        rw [← hX2] at HX2 ⊢
        have HX2e := Lib.hid hX2
        clear hX2
        rintro W9 ⟨k8, k4, hbl⟩
        have HR8 := Lib.hid (blk_whole k8)
        have HT4 : Hid (W9.there w.heap.size 0 X2.toArray.size) := Lib.hid (blk_there k4 (by rw [List.size_toArray, HX2.out.len, HZ.out.len]; omega))
        have L4 : Hid (Blk (W9.setCells w.heap.size 0 X2) w.heap.size 101 X2.toArray) := Lib.hid (blk_over k4 (by rw [HX2.out.len, HZ.out.len]))
        have HB9 := Lib.hid hbl
        clear k8 k4 hbl
        go_wp2_with (first | refine wpList_load_mid rfl 101 (.tmp 8) rfl g8 0 rfl X2 _ HR8.out Tryz.underlying101 rfl HX2.out.size ?_ | refine wpList_store_mid rfl 101 (.tmp 4) (.tmp 49) rfl w.heap.size 0 X2.toArray rfl rfl HT4.out HX2.out.sizea HX2.out.onea ?_)
        refine fin (fun W => Blk W w.heap.size 101 X2.toArray ∧ Below w.heap.size w W) ⟨L4.out, below_setCells _ HB9.out (Nat.le_refl _)⟩ ?_
        rintro W3 ⟨kr, hbl⟩
        have hl := run_loadVar_mid W3 w.heap.size 0 101 X2 _ (blk_whole kr) Tryz.underlying101 rfl HX2.out.size
        try simp only [Go.Act.put, List.setIfInBounds_toArray, List.set_cons_zero, List.set_cons_succ]
        exact bodyPost_ret (v := .tuple #[.agg X2.toArray, .bool true]) (results_cell2 Tryz.results45 rfl rfl hl) rfl ⟨X2, rfl, by rw [HNe.out, HX2e.out], hbl⟩
structure SCx (SB : World → Nat → (Nat → Prop) → St → Prop) : Prop where
  keep_ : ∀ w w' g F S, SB w g F S → (∀ b, F b → w'.heap[b]? = w.heap[b]?) → SB w' g F S
  inb : ∀ w g F S, SB w g F S → ∀ b, F b → b < w.heap.size
  new : ∀ (w : World) (r : Nat), r ≤ 256 → Calls Tryz.prog 26 #[.int .i64 r] w fun e w' => ∃ g F, e = .returned (.tuple #[.pointer (some ⟨g, 0, none⟩), .int .i64 0]) ∧ SB w' g F (St0 r) ∧ (∀ b, F b → w.heap.size ≤ b) ∧ Below w.heap.size w w'
  bad : ∀ (w : World) (x : Int), (x < 0 ∨ 256 < x) → Calls Tryz.prog 26 #[.int .i64 x] w fun e w' => e = .returned (.tuple #[.pointer none, .int .i64 1]) ∧ Below w.heap.size w w'
  spawn : ∀ (w : World) g F S (P : PT), WS S → Bd S 1000 → SB w g F S → Calls Tryz.prog 57 #[.pointer (some ⟨g, 0, none⟩), .agg (pl P).toArray] w fun e w' => e = .returned (.tuple #[.int .i64 (spV S P), .int .i64 (spE S P)]) ∧ Chg SB w w' g F (spS S P)
  despawn : ∀ (w : World) g F S (id : Int), WS S → Bd S 1000 → SB w g F S → Calls Tryz.prog 60 #[.pointer (some ⟨g, 0, none⟩), .int .i64 id] w fun e w' => e = .returned (.int .i64 (deE S id)) ∧ Chg SB w w' g F (deS S id)
  put : ∀ (w : World) g F S (id : Int) (P : PT) (a : Option Addr) (n cap : Nat) (ks : List Int), WS S → Bd S 1000 → SB w g F S → n ≤ 1000 → Row w a n ks → Aw F a n → Calls Tryz.prog 63 #[.pointer (some ⟨g, 0, none⟩), .int .i64 id, .agg (pl P).toArray, .slice a n cap] w fun e w' => e = .returned (.int .i64 (puE S id P ks)) ∧ Chg SB w w' g F (puS S id P ks)
  cut : ∀ (w : World) g F S (id : Int) (a : Option Addr) (n cap : Nat) (ks : List Int), WS S → Bd S 1000 → SB w g F S → n ≤ 1000 → Row w a n ks → Aw F a n → Calls Tryz.prog 64 #[.pointer (some ⟨g, 0, none⟩), .int .i64 id, .slice a n cap] w fun e w' => e = .returned (.int .i64 (cuE S id ks)) ∧ Chg SB w w' g F (cuS S id ks)
  touch : ∀ (w : World) g F S (a : Option Addr) (n cap : Nat) (xs : List Int), WS S → Bd S 1000 → SB w g F S → n ≤ 1000 → Row w a n xs → Aw F a n → Calls Tryz.prog 59 #[.pointer (some ⟨g, 0, none⟩), .slice a n cap] w fun e w' => e = .returned (.int .i64 (toN S xs : Nat)) ∧ Chg SB w w' g F (toS S xs)
  get : ∀ (w : World) g F S (id : Int), WS S → Bd S 1000 → SB w g F S → Calls Tryz.prog 53 #[.pointer (some ⟨g, 0, none⟩), .int .i64 id] w fun e w' => ∃ Y, e = .returned (.tuple #[.agg (List.toArray Y), .bool (getB S id)]) ∧ Y = pl (getP S id) ∧ Below w.heap.size w w'
  all : ∀ (w : World) g F S, WS S → Bd S 1000 → SB w g F S → Calls Tryz.prog 50 #[.pointer (some ⟨g, 0, none⟩)] w fun e w' => ∃ v, e = .returned v ∧ LRes w w' (alS S) v ∧ Below w.heap.size w w'
  tick : ∀ (w : World) g F S, WS S → Bd S 1000 → SB w g F S → Calls Tryz.prog 48 #[.pointer (some ⟨g, 0, none⟩)] w fun e w' => e = .returned (.int .i64 S.now) ∧ Below w.heap.size w w'
  next : ∀ (w : World) g F S, WS S → Bd S 1000 → SB w g F S → Calls Tryz.prog 49 #[.pointer (some ⟨g, 0, none⟩)] w fun e w' => e = .returned (.int .i64 (S.now + 1)) ∧ Chg SB w w' g F (neS S)
  changed : ∀ (w : World) g F S (since : Int), WS S → Bd S 1000 → SB w g F S → Calls Tryz.prog 54 #[.pointer (some ⟨g, 0, none⟩), .int .i64 since] w fun e w' => ∃ v, e = .returned v ∧ LRes w w' (chL S since) v ∧ Below w.heap.size w w'
  gone : ∀ (w : World) g F S (since : Int), WS S → Bd S 1000 → SB w g F S → Calls Tryz.prog 55 #[.pointer (some ⟨g, 0, none⟩), .int .i64 since] w fun e w' => ∃ v, e = .returned v ∧ LRes w w' (goL S since) v ∧ Below w.heap.size w w'
structure FCx (FB : World → Nat → (Nat → Prop) → FT → Prop) : Prop where
  keep_ : ∀ w w' g F L, FB w g F L → (∀ b, F b → w'.heap[b]? = w.heap[b]?) → FB w' g F L
  inb : ∀ w g F L, FB w g F L → ∀ b, F b → b < w.heap.size
  rng : ∀ w g F L, FB w g F L → ∀ p ∈ L, Rg p.1 ∧ Rg p.2
  new : ∀ w : World, Calls Tryz.prog 27 #[] w fun e w' => ∃ g F, e = .returned (.pointer (some ⟨g, 0, none⟩)) ∧ FB w' g F [] ∧ (∀ b, F b → w.heap.size ≤ b) ∧ Below w.heap.size w w'
  set : ∀ (w : World) g F L (c p : Int), WF L → L.length ≤ 1000 → FB w g F L → Rg c → Rg p → Calls Tryz.prog 58 #[.pointer (some ⟨g, 0, none⟩), .int .i64 c, .int .i64 p] w fun e w' => e = .returned (.int .i64 (fsetE L c p)) ∧ ChF FB w w' g F (setS9 L c p)
  free : ∀ (w : World) g F L (a : Option Addr) (n cap : Nat) (xs : List Int), WF L → L.length ≤ 1000 → FB w g F L → n ≤ 1000 → Row w a n xs → Aw F a n → Rgs xs → Calls Tryz.prog 65 #[.pointer (some ⟨g, 0, none⟩), .slice a n cap] w fun e w' => e = .returned (.int .i64 (frN L xs : Nat)) ∧ ChF FB w w' g F (freeS L xs)
  drop : ∀ (w : World) g F L (x : Int), WF L → L.length ≤ 1000 → FB w g F L → Rg x → Calls Tryz.prog 61 #[.pointer (some ⟨g, 0, none⟩), .int .i64 x] w fun e w' => ∃ v, e = .returned v ∧ LDr F w w' (chF L x) v ∧ ChF FB w w' g F (dropF L x)
  parent : ∀ (w : World) g F L (x : Int), WF L → L.length ≤ 1000 → FB w g F L → Rg x → Calls Tryz.prog 79 #[.pointer (some ⟨g, 0, none⟩), .int .i64 x] w fun e w' => e = .returned (.tuple #[.int .i64 (parV (parO L x)), .bool (parO L x).isSome]) ∧ Below w.heap.size w w'
theorem SCx.kb {SB : World → Nat → (Nat → Prop) → St → Prop} (h : SCx SB) : KB SB := ⟨h.keep_, h.inb⟩
theorem FCx.kb {FB : World → Nat → (Nat → Prop) → FT → Prop} (h : FCx FB) : KB FB := ⟨h.keep_, h.inb⟩
structure XC (XB : World → Nat → (Nat → Prop) → Sc → Prop) : Prop where
  kb : KB XB
  new : ∀ (w : World) (r : Nat), r ≤ 256 → Calls Tryz.prog 7 #[.int .i64 r] w fun e w' => ∃ g F, e = .returned (.tuple #[.pointer (some ⟨g, 0, none⟩), .int .i64 0]) ∧ XB w' g F (Sc0 r) ∧ (∀ b, F b → w.heap.size ≤ b) ∧ Below w.heap.size w w'
  bad : ∀ (w : World) (x : Int), (x < 0 ∨ 256 < x) → Calls Tryz.prog 7 #[.int .i64 x] w fun e w' => e = .returned (.tuple #[.pointer none, .int .i64 1]) ∧ Below w.heap.size w w'
  spawn : ∀ (w : World) g F X (P : PT) (p : Int), WX X → BSc X 900 → XB w g F X → Rg p → Calls Tryz.prog 22 #[.pointer (some ⟨g, 0, none⟩), .agg (pl P).toArray, .int .i64 p] w fun e w' => e = .returned (.tuple #[.int .i64 (xspV X P p), .int .i64 (xspE X P p)]) ∧ ChB XB w w' g F (xspS X P p)
  despawn : ∀ (w : World) g F X (id : Int), WX X → BSc X 900 → XB w g F X → Rg id → Calls Tryz.prog 24 #[.pointer (some ⟨g, 0, none⟩), .int .i64 id] w fun e w' => e = .returned (.int .i64 (deE X.S id)) ∧ ChB XB w w' g F (xdeS X id)
  put : ∀ (w : World) g F X (id : Int) (P : PT) (a : Option Addr) (n cap : Nat) (ks : List Int), WX X → BSc X 900 → XB w g F X → n ≤ 900 → Row w a n ks → Aw F a n → Calls Tryz.prog 30 #[.pointer (some ⟨g, 0, none⟩), .int .i64 id, .agg (pl P).toArray, .slice a n cap] w fun e w' => e = .returned (.int .i64 (puE X.S id P ks)) ∧ ChB XB w w' g F (xpuS X id P ks)
  cut : ∀ (w : World) g F X (id : Int) (a : Option Addr) (n cap : Nat) (ks : List Int), WX X → BSc X 900 → XB w g F X → n ≤ 900 → Row w a n ks → Aw F a n → Calls Tryz.prog 31 #[.pointer (some ⟨g, 0, none⟩), .int .i64 id, .slice a n cap] w fun e w' => e = .returned (.int .i64 (cuE X.S id ks)) ∧ ChB XB w w' g F (xcuS X id ks)
  adopt : ∀ (w : World) g F X (c p : Int), WX X → BSc X 900 → XB w g F X → Rg c → Rg p → Calls Tryz.prog 23 #[.pointer (some ⟨g, 0, none⟩), .int .i64 c, .int .i64 p] w fun e w' => e = .returned (.int .i64 (xadE X c p)) ∧ ChB XB w w' g F (xadS X c p)
  free : ∀ (w : World) g F X (c : Int), WX X → BSc X 900 → XB w g F X → Rg c → Calls Tryz.prog 32 #[.pointer (some ⟨g, 0, none⟩), .int .i64 c] w fun e w' => e = .returned (.int .i64 (xfrE X c)) ∧ ChB XB w w' g F (xfrS X c)
  get : ∀ (w : World) g F X (id : Int), WX X → BSc X 900 → XB w g F X → Calls Tryz.prog 17 #[.pointer (some ⟨g, 0, none⟩), .int .i64 id] w fun e w' => ∃ Y, e = .returned (.tuple #[.agg (List.toArray Y), .bool (getB X.S id)]) ∧ Y = pl (getP X.S id) ∧ Below w.heap.size w w'
  parent : ∀ (w : World) g F X (id : Int), WX X → BSc X 900 → XB w g F X → Rg id → Calls Tryz.prog 43 #[.pointer (some ⟨g, 0, none⟩), .int .i64 id] w fun e w' => e = .returned (.tuple #[.int .i64 (parV (parO X.L id)), .bool (parO X.L id).isSome]) ∧ Below w.heap.size w w'
  all : ∀ (w : World) g F X, WX X → BSc X 900 → XB w g F X → Calls Tryz.prog 15 #[.pointer (some ⟨g, 0, none⟩)] w fun e w' => ∃ v, e = .returned v ∧ LRes w w' (alS X.S) v ∧ Below w.heap.size w w'
  tick : ∀ (w : World) g F X, WX X → BSc X 900 → XB w g F X → Calls Tryz.prog 13 #[.pointer (some ⟨g, 0, none⟩)] w fun e w' => e = .returned (.int .i64 X.S.now) ∧ Below w.heap.size w w'
  next : ∀ (w : World) g F X, WX X → BSc X 900 → XB w g F X → Calls Tryz.prog 14 #[.pointer (some ⟨g, 0, none⟩)] w fun e w' => e = .returned (.int .i64 (X.S.now + 1)) ∧ ChB XB w w' g F (xneS X)
  changed : ∀ (w : World) g F X (since : Int), WX X → BSc X 900 → XB w g F X → Calls Tryz.prog 18 #[.pointer (some ⟨g, 0, none⟩), .int .i64 since] w fun e w' => ∃ v, e = .returned v ∧ LRes w w' (chL X.S since) v ∧ Below w.heap.size w w'
  gone : ∀ (w : World) g F X (since : Int), WX X → BSc X 900 → XB w g F X → Calls Tryz.prog 19 #[.pointer (some ⟨g, 0, none⟩), .int .i64 since] w fun e w' => ∃ v, e = .returned v ∧ LRes w w' (goL X.S since) v ∧ Below w.heap.size w w'
  node : ∀ (w : World) g F X (id : Int), WX X → BSc X 900 → XB w g F X → Rg id → Calls Tryz.prog 16 #[.pointer (some ⟨g, 0, none⟩), .int .i64 id] w fun e w' => ∃ Y, e = .returned (.tuple #[.agg (List.toArray Y), .bool (getB X.S id)]) ∧ Y = cNd (nodeX X id) ∧ Below w.heap.size w w'
def SL (SB : World → Nat → (Nat → Prop) → St → Prop) : Prop := ∀ w g F S, SB w g F S → ∃ p, ∀ u, Below w.heap.size w u → u.cell? ⟨g, 0, none⟩ = some (.pointer (some ⟨p, 0, none⟩)) ∧ g < u.heap.size ∧ ∀ x : Int, Calls Tryz.prog 56 #[.pointer (some ⟨p, 0, none⟩), .int .i64 x] u fun e w' => e = .returned (.bool (liveS S x)) ∧ Below u.heap.size u w'

def LXB (SB : World → Nat → (Nat → Prop) → St → Prop) (FB : World → Nat → (Nat → Prop) → FT → Prop) (w : World) (g : Nat) (F : Nat → Prop) (X : Sc) : Prop := ∃ gs gf Fs Ff, Blk w g 75 #[.pointer (some ⟨gs, 0, none⟩), .pointer (some ⟨gf, 0, none⟩)] ∧ PR SB FB w gs gf Fs Ff (fun b => b = g) X ∧ ∀ b, F b ↔ b = g ∨ Fs b ∨ Ff b
def LPS (SB : World → Nat → (Nat → Prop) → St → Prop) (FB : World → Nat → (Nat → Prop) → FT → Prop) (w0 w : World) (g gs gf : Nat) (F : Nat → Prop) (X : Sc) : Prop := Blk w0 g 75 #[.pointer (some ⟨gs, 0, none⟩), .pointer (some ⟨gf, 0, none⟩)] ∧ PSt SB FB w0 w gs gf (fun b => b = g) F X
section
variable {SB : World → Nat → (Nat → Prop) → St → Prop} {FB : World → Nat → (Nat → Prop) → FT → Prop} {w0 w w' : World} {g gs gf : Nat} {F : Nat → Prop} {X : Sc}
theorem kb_lxb (kS : KB SB) (kF : KB FB) : KB (LXB SB FB) := ⟨fun w w' g F X ⟨gs, gf, Fs, Ff, hb, h, hF⟩ he => by
  have hbs := hb.same (he g ((hF g).2 (Or.inl rfl)))
  exact ⟨gs, gf, Fs, Ff, hbs, ⟨kS.keep_ _ _ _ _ _ h.st (fun b c => he b ((hF b).2 (Or.inr (Or.inl c)))), kF.keep_ _ _ _ _ _ h.fo (fun b c => he b ((hF b).2 (Or.inr (Or.inr c)))), h.apart, h.hs, fun b c => by have c' : b = g := c; rw [c']; exact hbs.lt⟩, hF⟩, fun w g F X ⟨gs, gf, Fs, Ff, hb, h, hF⟩ b c => by
  rcases (hF b).1 c with d | d | d
  · rw [d]; exact hb.lt
  · exact kS.inb _ _ _ _ h.st b d
  · exact kF.inb _ _ _ _ h.fo b d⟩
theorem LXB.open_ (h : LXB SB FB w g F X) : ∃ gs gf, LPS SB FB w w g gs gf F X := by
  obtain ⟨gs, gf, Fs, Ff, hb, h1, hF⟩ := h
  exact ⟨gs, gf, hb, PSt.init h1 hF⟩
theorem LPS.blk (h : LPS SB FB w0 w g gs gf F X) : Blk w g 75 #[.pointer (some ⟨gs, 0, none⟩), .pointer (some ⟨gf, 0, none⟩)] := by
  obtain ⟨hb, Fs, Ff, h1, h2, h3, h4⟩ := h
  exact hb.same (h4 g rfl).2
theorem LPS.done (h : LPS SB FB w0 w g gs gf F X) : ChB (LXB SB FB) w0 w g F X := by
  have hb := h.blk
  obtain ⟨_, Fs, Ff, h1, h2, h3, h4⟩ := h
  refine ⟨fun b => b = g ∨ Fs b ∨ Ff b, ⟨gs, gf, Fs, Ff, hb, h1, fun _ => Iff.rfl⟩, h2, fun b c => ?_⟩
  rcases c with c | c
  · rw [c]; exact Or.inl (h4 g rfl).1
  · exact h3 b c
theorem LPS.keep (kS : KB SB) (kF : KB FB) (h : LPS SB FB w0 w g gs gf F X) (hb : Below w.heap.size w w') : LPS SB FB w0 w' g gs gf F X := ⟨h.1, h.2.keep kS kF hb⟩
theorem LPS.reads (h : LPS SB FB w0 w g gs gf F X) : w.cell? ⟨g, 0, none⟩ = some (.pointer (some ⟨gs, 0, none⟩)) ∧ w.cell? ⟨g, 1, none⟩ = some (.pointer (some ⟨gf, 0, none⟩)) ∧ g < w.heap.size := ⟨h.blk.cell 0, h.blk.cell 1, h.blk.lt⟩
theorem LPS.withS (kS : KB SB) (kF : KB FB) (h : LPS SB FB w0 w g gs gf F X) : ∃ Fs, (∀ b, Fs b → b < w.heap.size) ∧ (∀ b, Fs b → F b ∨ w0.heap.size ≤ b) ∧ ∀ w1, Below w.heap.size w w1 → SB w1 gs Fs X.S ∧ ∀ w' S', Chg SB w1 w' gs Fs S' → LPS SB FB w0 w' g gs gf F ⟨S', X.L⟩ := by
  obtain ⟨hb, h1⟩ := h
  obtain ⟨Fs, a, b, c⟩ := h1.withS kS kF
  exact ⟨Fs, a, b, fun w1 q => ⟨(c w1 q).1, fun w' S' z => ⟨hb, (c w1 q).2 w' S' z⟩⟩⟩
theorem LPS.withF (kS : KB SB) (kF : KB FB) (h : LPS SB FB w0 w g gs gf F X) : ∃ Ff, (∀ b, Ff b → b < w.heap.size) ∧ (∀ b, Ff b → F b ∨ w0.heap.size ≤ b) ∧ ∀ w1, Below w.heap.size w w1 → FB w1 gf Ff X.L ∧ ∀ w' L', ChF FB w1 w' gf Ff L' → LPS SB FB w0 w' g gs gf F ⟨X.S, L'⟩ ∧ ∀ (a : Option Addr) (n : Nat), (n = 0 ∨ ∀ ad, a = some ad → Ff ad.block ∨ w1.heap.size ≤ ad.block) → ∃ Fs, SB w' gs Fs X.S ∧ Aw Fs a n ∧ ∀ w'' S', Chg SB w' w'' gs Fs S' → LPS SB FB w0 w'' g gs gf F ⟨S', L'⟩ := by
  obtain ⟨hb, h1⟩ := h
  obtain ⟨Ff, a, b, c⟩ := h1.withF kS kF
  refine ⟨Ff, a, b, fun w1 q => ⟨(c w1 q).1, fun w' L' z => ⟨⟨hb, ((c w1 q).2 w' L' z).1⟩, fun ad n hn => ?_⟩⟩⟩
  obtain ⟨Fs, k1, k2, k3⟩ := ((c w1 q).2 w' L' z).2 ad n hn
  exact ⟨Fs, k1, k2, fun w'' S' y => ⟨hb, k3 w'' S' y⟩⟩
end
set_option maxHeartbeats 2000000 in
set_option maxRecDepth 100000 in
theorem lent_any {w : World} {g gs : Nat} (c0 : w.cell? ⟨g, 0, none⟩ = some (.pointer (some ⟨gs, 0, none⟩))) :
    Calls Tryz.prog 47 #[.pointer (some ⟨g, 0, none⟩)] w fun e w' => e = .returned (.pointer (some ⟨gs, 0, none⟩)) ∧ w = w' := by
  go_enter Tryz.func47, Tryz.ntmps47
  go_wp2
  go_ret
  exact ⟨rfl, rfl⟩
set_option maxHeartbeats 2000000 in
theorem lentN (w : World) : Calls Tryz.prog 47 #[.pointer none] w fun e w' => e = .returned (.pointer none) ∧ w = w' := by
  go_enter Tryz.func47, Tryz.ntmps47
  go_wp2
  go_ret
  exact ⟨rfl, rfl⟩
end Go.Proofs.YtkondkajpmafkaaGreat
