/-
  The live question of the law of layer 8, for any package that answers as the bundle says.
-/
import Derived.Test.YtcpgkkphibhdfaaGreatStoD
namespace Go.Proofs.YtcpgkkphibhdfaaGreat
open Go.RowKit

def p81 : PT := (8, zI, 0, zI, 0, 0, false, 3)
def p82 : PT := (16, zI, 0, zI, 0, 0, false, 0)
def s81 : St := spS (St0 2) p81
def s82 : St := neS s81
def s83 : St := spS s82 zT
def s84 : St := puS s83 0 p82 [4]
def s85 : St := deS s84 1
theorem t81 : spV (St0 2) p81 = 0 ∧ spE (St0 2) p81 = 0 := by decide +kernel
theorem t83 : spV s82 zT = 1 ∧ spE s82 zT = 0 := by decide +kernel
theorem t84 : puE s83 0 p82 [4] = 0 := by decide +kernel
theorem t85 : deE s84 1 = 0 := by decide +kernel
theorem t86 : getB s85 0 = true ∧ (getP s85 0).1 = 24 ∧ (getP s85 0).2.2.2.2.2.2.2 = 3 := by decide +kernel
theorem t87 : chL s85 1 = [0] := by decide +kernel
theorem t88 : goL s85 1 = [1] := by decide +kernel
theorem t89 : quL s85 8 1 = [0] := by decide +kernel
theorem t90 : s85.now = 2 := by decide +kernel
theorem told81 : Told (fun _ => True) (fun _ _ => False) 0 s81 := (Told.first (by omega)).spawn _
theorem told82 : Told (fun _ => True) (fun _ _ => False) 0 s82 := told81.ne
theorem told83 : Told (fun _ => True) (fun _ _ => False) 0 s83 := told82.spawn _
theorem told84 : Told (fun _ => True) (fun _ _ => False) 0 s84 := told83.pu _ _ _
theorem told85 : Told (fun _ => True) (fun _ _ => False) 0 s85 := told84.de _
theorem bd81 : Bd s81 1 := bd_sp (bd_zero (by omega)) _
theorem bd82 : Bd s82 2 := bd_ne bd81
theorem bd83 : Bd s83 3 := bd_sp bd82 _
theorem bd84 : Bd s84 4 := by
  unfold s84 puS
  rw [t84, if_pos rfl]
  exact bd_lay bd83 _ _
theorem bd85 : Bd s85 5 := bd_de bd84 _
/-- a list of the cells of parts -/
def PXs (X : List Value) : Prop := X.length = 24 ∧ (Tryz.prog.info? 44).map (·.size) = some X.length ∧ (Tryz.prog.info? 44).map (·.size) = some X.toArray.size ∧ X.toArray.all (·.oneCell') = true
theorem psame_yes {a b : Option Addr} {n m cap cap' : Nat} {xs : List Int} {w : World} (row : Row w a n xs) (row' : Row w b m xs) : Calls Tryz.prog 25 #[.slice a n cap, .slice b m cap'] w fun e w' => e = .returned (.bool true) ∧ Below w.heap.size w w' :=
  (psame_any a b n m cap cap' xs xs w row row').mono fun _ _ k => ⟨by rw [k.1]; simp, k.2⟩
section
variable {SB : World → Nat → (Nat → Prop) → St → Prop}
theorem Chg.step {w0 w1 w2 : World} {B g : Nat} {F : Nat → Prop} {S : St} (h : Chg SB w1 w2 g F S) (hb : Below B w0 w1) (hF : ∀ b, F b → B ≤ b) (hs : B ≤ w1.heap.size) : ∃ F', SB w2 g F' S ∧ Below B w0 w2 ∧ (∀ b, F' b → B ≤ b) ∧ B ≤ w2.heap.size := by
  obtain ⟨F', h1, h2, h3⟩ := h
  exact ⟨F', h1, Fr.below h2 hb hF hs, fun b hb => (h3 b hb).elim (fun c => hF b c) (fun c => Nat.le_trans hs c), Nat.le_trans hs h2.2.2.2.1⟩

theorem f8HSp1 (hC : SC SB) : ∀ u g F, SB u g F (St0 2) → Calls Tryz.prog 11 #[.pointer (some ⟨g, 0, none⟩), .agg #[.int .i64 8, .int .i64 0, .int .i64 0, .int .i64 0, .int .i64 0, .int .i64 0, .int .i64 0, .int .i64 0, .int .i64 0, .int .i64 0, .int .i64 0, .int .i64 0, .int .i64 0, .int .i64 0, .int .i64 0, .int .i64 0, .int .i64 0, .int .i64 0, .int .i64 0, .int .i64 0, .int .i64 0, .int .i64 0, .bool false, .int .i64 3]] u fun e w' => e = .returned (.tuple #[.int .i64 0, .int .i64 0]) ∧ Chg SB u w' g F s81 := fun u g F h => (hC.spawn u g F (St0 2) p81 (ws_zero (by omega)) ((bd_zero (by omega)).mono (by omega)) h).mono fun _ _ k => ⟨by rw [k.1, t81.1, t81.2], k.2⟩
theorem f8HNe (hC : SC SB) : ∀ u g F, SB u g F s81 → Calls Tryz.prog 18 #[.pointer (some ⟨g, 0, none⟩)] u fun e w' => ∃ z, e = .returned (.int .i64 z) ∧ Chg SB u w' g F s82 := fun u g F h => (hC.next u g F s81 told81.ws (bd81.mono (by omega)) h).mono fun _ _ k => ⟨_, k.1, k.2⟩
theorem f8HSp2 (hC : SC SB) : ∀ u g F, SB u g F s82 → Calls Tryz.prog 11 #[.pointer (some ⟨g, 0, none⟩), .agg #[.int .i64 0, .int .i64 0, .int .i64 0, .int .i64 0, .int .i64 0, .int .i64 0, .int .i64 0, .int .i64 0, .int .i64 0, .int .i64 0, .int .i64 0, .int .i64 0, .int .i64 0, .int .i64 0, .int .i64 0, .int .i64 0, .int .i64 0, .int .i64 0, .int .i64 0, .int .i64 0, .int .i64 0, .int .i64 0, .bool false, .int .i64 0]] u fun e w' => e = .returned (.tuple #[.int .i64 1, .int .i64 0]) ∧ Chg SB u w' g F s83 := fun u g F h => (hC.spawn u g F s82 zT told82.ws (bd82.mono (by omega)) h).mono fun _ _ k => ⟨by rw [k.1, t83.1, t83.2], k.2⟩
theorem f8HPu (hC : SC SB) : ∀ u g F a cap, SB u g F s83 → Row u a 1 [4] → Aw F a 1 → Calls Tryz.prog 21 #[.pointer (some ⟨g, 0, none⟩), .int .i64 0, .agg #[.int .i64 16, .int .i64 0, .int .i64 0, .int .i64 0, .int .i64 0, .int .i64 0, .int .i64 0, .int .i64 0, .int .i64 0, .int .i64 0, .int .i64 0, .int .i64 0, .int .i64 0, .int .i64 0, .int .i64 0, .int .i64 0, .int .i64 0, .int .i64 0, .int .i64 0, .int .i64 0, .int .i64 0, .int .i64 0, .bool false, .int .i64 0], .slice a 1 cap] u fun e w' => e = .returned (.int .i64 0) ∧ Chg SB u w' g F s84 := fun u g F a cap h hr ha => (hC.put u g F s83 0 p82 a 1 cap [4] told83.ws (bd83.mono (by omega)) h (by omega) hr ha).mono fun _ _ k => ⟨by rw [k.1, t84], k.2⟩
theorem f8HDe (hC : SC SB) : ∀ u g F, SB u g F s84 → Calls Tryz.prog 20 #[.pointer (some ⟨g, 0, none⟩), .int .i64 1] u fun e w' => e = .returned (.int .i64 0) ∧ Chg SB u w' g F s85 := fun u g F h => (hC.despawn u g F s84 1 told84.ws (bd84.mono (by omega)) h).mono fun _ _ k => ⟨by rw [k.1, t85], k.2⟩
theorem f8HGe (hC : SC SB) : ∀ u g F, SB u g F s85 → Calls Tryz.prog 12 #[.pointer (some ⟨g, 0, none⟩), .int .i64 0] u fun e w' => ∃ Y, e = .returned (.tuple #[.agg (List.toArray Y), .bool true]) ∧ Y = pl (getP s85 0) ∧ Below u.heap.size u w' := fun u g F h => (hC.get u g F s85 0 told85.ws (bd85.mono (by omega)) h).mono fun _ _ k => by rw [t86.1] at k; exact k
theorem f8HCh (hC : SC SB) : ∀ u g F, SB u g F s85 → Calls Tryz.prog 15 #[.pointer (some ⟨g, 0, none⟩), .int .i64 1] u fun e w' => ∃ v, e = .returned v ∧ LRes u w' [0] v ∧ Below u.heap.size u w' := fun u g F h => (hC.changed u g F s85 1 told85.ws (bd85.mono (by omega)) h).mono fun _ _ k => by rw [t87] at k; exact k
theorem f8HGo (hC : SC SB) : ∀ u g F, SB u g F s85 → Calls Tryz.prog 16 #[.pointer (some ⟨g, 0, none⟩), .int .i64 1] u fun e w' => ∃ v, e = .returned v ∧ LRes u w' [1] v ∧ Below u.heap.size u w' := fun u g F h => (hC.gone u g F s85 1 told85.ws (bd85.mono (by omega)) h).mono fun _ _ k => by rw [t88] at k; exact k
theorem f8HQu (hC : SC SB) : ∀ u g F, SB u g F s85 → Calls Tryz.prog 14 #[.pointer (some ⟨g, 0, none⟩), .int .i64 8, .int .i64 1] u fun e w' => ∃ v, e = .returned v ∧ LRes u w' [0] v ∧ Below u.heap.size u w' := fun u g F h => (hC.query u g F s85 8 1 told85.ws (bd85.mono (by omega)) h).mono fun _ _ k => by rw [t89] at k; exact k
theorem f8HTi (hC : SC SB) : ∀ u g F, SB u g F s85 → Calls Tryz.prog 17 #[.pointer (some ⟨g, 0, none⟩)] u fun e w' => e = .returned (.int .i64 2) ∧ Below u.heap.size u w' := fun u g F h => (hC.tick u g F s85 told85.ws (bd85.mono (by omega)) h).mono fun _ _ k => by rw [t90] at k; exact k
theorem f8HY : ∀ Y : List Value, Y = pl (getP s85 0) → PXs Y ∧ Y[0]? = some (.int .i64 24) ∧ Y[23]? = some (.int .i64 3) := fun Y h => by
  have e1 := t86.2.1
  have e2 := t86.2.2
  obtain ⟨P, hP⟩ : ∃ P, P = getP s85 0 := ⟨_, rfl⟩
  rw [← hP] at h e1 e2
  subst h
  exact ⟨⟨pl_len _, pl_size _, pl_size' _, pl_one _⟩, by rw [← e1]; rfl, by rw [← e2]; rfl⟩
set_option maxHeartbeats 4000000 in
set_option maxRecDepth 100000 in
theorem alive8_walk (hC : SC SB) (T0 T1 T2 T3 T4 T5 : St) (hnew : ∀ w, Calls Tryz.prog 7 #[.int .i64 2] w fun e w' => ∃ g F, e = .returned (.tuple #[.pointer (some ⟨g, 0, none⟩), .int .i64 0]) ∧ SB w' g F T0 ∧ (∀ b, F b → w.heap.size ≤ b) ∧ Below w.heap.size w w') (HSp1_ : ∀ u g F, SB u g F T0 → Calls Tryz.prog 11 #[.pointer (some ⟨g, 0, none⟩), .agg #[.int .i64 8, .int .i64 0, .int .i64 0, .int .i64 0, .int .i64 0, .int .i64 0, .int .i64 0, .int .i64 0, .int .i64 0, .int .i64 0, .int .i64 0, .int .i64 0, .int .i64 0, .int .i64 0, .int .i64 0, .int .i64 0, .int .i64 0, .int .i64 0, .int .i64 0, .int .i64 0, .int .i64 0, .int .i64 0, .bool false, .int .i64 3]] u fun e w' => e = .returned (.tuple #[.int .i64 0, .int .i64 0]) ∧ Chg SB u w' g F T1) (HNe_ : ∀ u g F, SB u g F T1 → Calls Tryz.prog 18 #[.pointer (some ⟨g, 0, none⟩)] u fun e w' => ∃ z, e = .returned (.int .i64 z) ∧ Chg SB u w' g F T2) (HSp2_ : ∀ u g F, SB u g F T2 → Calls Tryz.prog 11 #[.pointer (some ⟨g, 0, none⟩), .agg #[.int .i64 0, .int .i64 0, .int .i64 0, .int .i64 0, .int .i64 0, .int .i64 0, .int .i64 0, .int .i64 0, .int .i64 0, .int .i64 0, .int .i64 0, .int .i64 0, .int .i64 0, .int .i64 0, .int .i64 0, .int .i64 0, .int .i64 0, .int .i64 0, .int .i64 0, .int .i64 0, .int .i64 0, .int .i64 0, .bool false, .int .i64 0]] u fun e w' => e = .returned (.tuple #[.int .i64 1, .int .i64 0]) ∧ Chg SB u w' g F T3) (HPu_ : ∀ u g F a cap, SB u g F T3 → Row u a 1 [4] → Aw F a 1 → Calls Tryz.prog 21 #[.pointer (some ⟨g, 0, none⟩), .int .i64 0, .agg #[.int .i64 16, .int .i64 0, .int .i64 0, .int .i64 0, .int .i64 0, .int .i64 0, .int .i64 0, .int .i64 0, .int .i64 0, .int .i64 0, .int .i64 0, .int .i64 0, .int .i64 0, .int .i64 0, .int .i64 0, .int .i64 0, .int .i64 0, .int .i64 0, .int .i64 0, .int .i64 0, .int .i64 0, .int .i64 0, .bool false, .int .i64 0], .slice a 1 cap] u fun e w' => e = .returned (.int .i64 0) ∧ Chg SB u w' g F T4) (HDe_ : ∀ u g F, SB u g F T4 → Calls Tryz.prog 20 #[.pointer (some ⟨g, 0, none⟩), .int .i64 1] u fun e w' => e = .returned (.int .i64 0) ∧ Chg SB u w' g F T5) (HGe_ : ∀ u g F, SB u g F T5 → Calls Tryz.prog 12 #[.pointer (some ⟨g, 0, none⟩), .int .i64 0] u fun e w' => ∃ Y, e = .returned (.tuple #[.agg (List.toArray Y), .bool true]) ∧ Y = pl (getP T5 0) ∧ Below u.heap.size u w') (HCh_ : ∀ u g F, SB u g F T5 → Calls Tryz.prog 15 #[.pointer (some ⟨g, 0, none⟩), .int .i64 1] u fun e w' => ∃ v, e = .returned v ∧ LRes u w' [0] v ∧ Below u.heap.size u w') (HGo_ : ∀ u g F, SB u g F T5 → Calls Tryz.prog 16 #[.pointer (some ⟨g, 0, none⟩), .int .i64 1] u fun e w' => ∃ v, e = .returned v ∧ LRes u w' [1] v ∧ Below u.heap.size u w') (HQu_ : ∀ u g F, SB u g F T5 → Calls Tryz.prog 14 #[.pointer (some ⟨g, 0, none⟩), .int .i64 8, .int .i64 1] u fun e w' => ∃ v, e = .returned v ∧ LRes u w' [0] v ∧ Below u.heap.size u w') (HTi_ : ∀ u g F, SB u g F T5 → Calls Tryz.prog 17 #[.pointer (some ⟨g, 0, none⟩)] u fun e w' => e = .returned (.int .i64 2) ∧ Below u.heap.size u w')
    (HY_ : ∀ Y : List Value, Y = pl (getP T5 0) → PXs Y ∧ Y[0]? = some (.int .i64 24) ∧ Y[23]? = some (.int .i64 3))
    (w : World) :
    Calls Tryz.prog 6 #[] w fun e w' => e = .returned (.bool true) ∧ Below w.heap.size w w' := by
  have HSp1 := Lib.hid HSp1_
  have HNe := Lib.hid HNe_
  have HSp2 := Lib.hid HSp2_
  have HPu := Lib.hid HPu_
  have HDe := Lib.hid HDe_
  have HGe := Lib.hid HGe_
  have HCh := Lib.hid HCh_
  have HGo := Lib.hid HGo_
  have HQu := Lib.hid HQu_
  have HTi := Lib.hid HTi_
  have HY := Lib.hid HY_
  clear HY_ HSp1_ HNe_ HSp2_ HPu_ HDe_ HGe_ HCh_ HGo_ HQu_ HTi_
  go_enter Tryz.func6, Tryz.ntmps6
  go_wp2_with fail
  refine (hnew w).mono ?_
  rintro e w1 ⟨g, F, rfl, sb, hF, b1⟩
  have HS := Lib.hid sb
  have HB := Lib.hid (And.intro b1 (And.intro hF b1.size))
  clear sb hF b1
  go_wp2_with fail
  refine (HSp1.out _ g F HS.out).mono ?_
  rintro e w2 ⟨rfl, ch⟩
  obtain ⟨F1, sb, hb⟩ := ch.step HB.out.1 HB.out.2.1 HB.out.2.2
  replace HS := Lib.hid sb
  replace HB := Lib.hid hb
  clear ch sb hb HSp1
  go_wp2_with fail
  refine (HNe.out _ g F1 HS.out).mono ?_
  rintro e w3 ⟨z, rfl, ch⟩
  obtain ⟨F2, sb, hb⟩ := ch.step HB.out.1 HB.out.2.1 HB.out.2.2
  replace HS := Lib.hid sb
  replace HB := Lib.hid hb
  clear ch sb hb HNe
  go_wp2_with fail
  refine (HSp2.out _ g F2 HS.out).mono ?_
  rintro e w4 ⟨rfl, ch⟩
  obtain ⟨F3, sb, hb⟩ := ch.step HB.out.1 HB.out.2.1 HB.out.2.2
  replace HS := Lib.hid sb
  replace HB := Lib.hid hb
  clear ch sb hb HSp2
  have HS' := Lib.hid (hC.keep HS.out (alloc_below w4 (.cells #[.int .i64 4] 67)))
  have HAw : Hid (Aw F3 (some ⟨w4.heap.size, 0, none⟩) 1) := Lib.hid (Or.inr (fun ad e hf => by
    injection e with e
    rw [← e] at hf
    have h2 : w4.heap.size < w4.heap.size := hC.inb _ g F3 _ HS.out _ hf
    omega))
  go_wp2_with fail
  refine (HPu.out _ g F3 _ _ HS'.out (row1 _ _ _) HAw.out).mono ?_
  rintro e w5 ⟨rfl, ch⟩
  obtain ⟨F4, sb, hb⟩ := ch.step (balloc HB.out.1 _) HB.out.2.1 (by rw [World.size_alloc]; have := HB.out.2.2; omega)
  replace HS := Lib.hid sb
  replace HB := Lib.hid hb
  clear ch sb hb HPu HS' HAw
  go_wp2_with fail
  refine (HDe.out _ g F4 HS.out).mono ?_
  rintro e w6 ⟨rfl, ch⟩
  obtain ⟨F5, sb, hb⟩ := ch.step HB.out.1 HB.out.2.1 HB.out.2.2
  replace HS := Lib.hid sb
  replace HB := Lib.hid hb.1
  clear ch sb hb HDe
  go_wp2_with fail
  refine (HGe.out _ g F5 HS.out).mono ?_
  rintro e w7 ⟨Y, rfl, hY, b1⟩
  obtain ⟨hpx, y0, y23⟩ := HY.out Y hY
  have HPX := Lib.hid hpx
  replace HS := Lib.hid (hC.keep HS.out b1)
  replace HB := Lib.hid (bthen HB.out b1)
  clear hY b1 HY HGe hpx
  have K9 := Lib.hid (Blk.new w7 44 Z24.toArray)
  have HT9 : Hid ((w7.alloc (.cells Z24.toArray 44)).there w7.heap.size 0 Y.toArray.size) := Lib.hid (blk_there K9.out (by rw [List.size_toArray, HPX.out.1]; exact Nat.le_refl 24))
  have L9 : Hid (Blk ((w7.alloc (.cells Z24.toArray 44)).setCells w7.heap.size 0 Y) w7.heap.size 44 Y.toArray ∧ Below w.heap.size w ((w7.alloc (.cells Z24.toArray 44)).setCells w7.heap.size 0 Y) ∧ SB ((w7.alloc (.cells Z24.toArray 44)).setCells w7.heap.size 0 Y) g F5 T5) := Lib.hid ⟨by
    have := blk_setCells Y (o := 0) K9.out (by rw [HPX.out.1]; exact Nat.le_refl 24)
    rwa [splice_all (by rw [HPX.out.1]; rfl)] at this, below_setCells _ (balloc HB.out _) HB.out.size, hC.keep HS.out (below_setCells Y (alloc_below _ _) (Nat.le_refl _))⟩
  go_upto_region 8 with (refine wpList_store_mid rfl 44 (.tmp 9) (.tmp 41) rfl w7.heap.size 0 Y.toArray rfl rfl HT9.out HPX.out.2.2.1 HPX.out.2.2.2 ?_)
  refine fin (fun W => Blk W w7.heap.size 44 Y.toArray ∧ Below w.heap.size w W ∧ SB W g F5 T5) L9.out ?_
  rintro W ⟨k9, hb, sb⟩
  have c0 : W.cell? ⟨w7.heap.size, 0, none⟩ = some (.int .i64 24) := by rw [k9.cell 0]; simpa using y0
  have c23 : W.cell? ⟨w7.heap.size, 23, none⟩ = some (.int .i64 3) := by rw [k9.cell 23]; simpa using y23
  have hlt := k9.lt
  replace HB := Lib.hid hb
  replace HS := Lib.hid sb
  clear k9 hb sb L9 HT9 K9 HPX y0 y23
  go_wp2_with fail
  refine (HCh.out _ g F5 HS.out).mono ?_
  rintro e w8 ⟨v, rfl, ⟨la, lc, rfl, lr, -⟩, b1⟩
  have HR := Lib.hid (row_keep lr (alloc_below w8 (.cells #[.int .i64 0] 35)))
  replace HB := Lib.hid (bthen HB.out b1)
  replace HS := Lib.hid (hC.keep HS.out b1)
  clear lr b1 HCh c0 c23 hlt
  go_wp2_with fail
  refine (psame_yes HR.out (row1 _ _ _)).mono ?_
  rintro e w9 ⟨rfl, b2⟩
  replace HS := Lib.hid (hC.keep (hC.keep HS.out (alloc_below w8 (.cells #[.int .i64 0] 35))) b2)
  replace HB := Lib.hid (bthen (balloc HB.out (.cells #[.int .i64 0] 35)) b2)
  clear HR b2
  go_wp2_with fail
  refine (HGo.out _ g F5 HS.out).mono ?_
  rintro e x9 ⟨v, rfl, ⟨lb, ld, rfl, lr, -⟩, b1⟩
  have HR := Lib.hid (row_keep lr (alloc_below x9 (.cells #[.int .i64 1] 35)))
  replace HB := Lib.hid (bthen HB.out b1)
  replace HS := Lib.hid (hC.keep HS.out b1)
  clear lr b1 HGo
  go_wp2_with fail
  refine (psame_yes HR.out (row1 _ _ _)).mono ?_
  rintro e w10 ⟨rfl, b2⟩
  replace HS := Lib.hid (hC.keep (hC.keep HS.out (alloc_below x9 (.cells #[.int .i64 1] 35))) b2)
  replace HB := Lib.hid (bthen (balloc HB.out (.cells #[.int .i64 1] 35)) b2)
  clear HR b2
  go_wp2_with fail
  refine (HQu.out _ g F5 HS.out).mono ?_
  rintro e x10 ⟨v, rfl, ⟨lf, lh, rfl, lr, -⟩, b1⟩
  have HR := Lib.hid (row_keep lr (alloc_below x10 (.cells #[.int .i64 0] 35)))
  replace HB := Lib.hid (bthen HB.out b1)
  replace HS := Lib.hid (hC.keep HS.out b1)
  clear lr b1 HQu
  go_wp2_with fail
  refine (psame_yes HR.out (row1 _ _ _)).mono ?_
  rintro e w11 ⟨rfl, b2⟩
  replace HS := Lib.hid (hC.keep (hC.keep HS.out (alloc_below x10 (.cells #[.int .i64 0] 35))) b2)
  replace HB := Lib.hid (bthen (balloc HB.out (.cells #[.int .i64 0] 35)) b2)
  clear HR b2
  go_wp2_with fail
  refine (HTi.out _ g F5 HS.out).mono ?_
  rintro e x11 ⟨rfl, b1⟩
  replace HB := Lib.hid (bthen HB.out b1)
  clear b1 HTi HS
  go_wp2
  go_ret
  exact ⟨rfl, HB.out⟩
theorem alive8_any (hC : SC SB) (w : World) : Calls Tryz.prog 6 #[] w fun e w' => e = .returned (.bool true) ∧ Below w.heap.size w w' :=
  alive8_walk hC (St0 2) s81 s82 s83 s84 s85 (fun w => hC.new w 2 (by omega)) (f8HSp1 hC) (f8HNe hC) (f8HSp2 hC) (f8HPu hC) (f8HDe hC) (f8HGe hC) (f8HCh hC) (f8HGo hC) (f8HQu hC) (f8HTi hC) f8HY w
end
end Go.Proofs.YtcpgkkphibhdfaaGreat
