/-
  5 texts in one file, each with its own heading.
-/
import Derived.Test.YtkondkajpmafkaaGreatMT09
import Derived.Test.YtkondkajpmafkaaGreatMT03
/-
  What the program's only, bare, valued and Right of layer 6 answer.
-/
namespace Go.Proofs.YtkondkajpmafkaaGreat
open Go.RowKit

theorem zT_bound : 0 ≤ zT.1 ∧ zT.1 ≤ 31 := by decide
theorem eqT_run (P Q : PT) (w : World) : (Op.equalIn 10000 43 (.agg (pl P).toArray) (.agg (pl Q).toArray)).run Tryz.prog w = .ok (eqT P Q) w := eqParts _ _ _ _ _ _ _ _ _ _ _ _ _ _ _ _ w

set_option maxHeartbeats 4000000 in
set_option maxRecDepth 100000 in
theorem only_any (P : PT) (s : Int) (w : World) :
    Calls Tryz.prog 136 #[.agg (pl P).toArray, .int .i64 s] w fun e w' => e = .returned (.agg (pl (pickT s P)).toArray) ∧ Below w.heap.size w w' := by
  rw [← with_pick s P]
  obtain ⟨R, hR⟩ : ∃ R, R = withT zT P (kindsL s) := ⟨_, rfl⟩
  have HC : Hid (∀ a cap w, Row w a (kindsL s).length (kindsL s) → Calls Tryz.prog 135 #[.agg (pl zT).toArray, .agg (pl P).toArray, .slice a (kindsL s).length cap] w fun e w' => e = .returned (.agg (pl R).toArray) ∧ Below w.heap.size w w') := Lib.hid (fun a cap w row => by rw [hR]; exact lay_any zT P a _ cap (kindsL s) w zT_bound (kindsL_ok s) row)
  rw [← hR]
  clear hR
  have hu := Tryz.underlying43
  have HSz := Lib.hid (pl_size P)
  have KP := Lib.hid ((Blk.new w 43 (pl P).toArray).alloc (.cells (pl zT).toArray 43))
  have KR := Lib.hid (blkAt (Blk.new (w.alloc (.cells (pl P).toArray 43)) 43 (pl zT).toArray) (g' := w.heap.size + 1) (by simp))
  go_enter Tryz.func136, Tryz.ntmps136
  go_wp2
  refine wp_region_held_drew (S := fun w' => w'.rangeAt w.heap.size 0 (pl P)) (by kernel_rfl) (blk_whole (Blk.drew KP.out)) (fun hHeld => ?_)
  refine tk 0 hHeld ?_
  refine tkl 1 rfl (yieldsIf_load_mid (by rfl) _ _ rfl _ _ rfl _ _ (fun _ h => h) hu rfl HSz.out) hHeld ?_
  refine tk 2 hHeld ?_
  refine rd 3 (fun K hK => ?_)
  go_simp
  go_at_call 171
  refine (pkinds_any s _).mono ?_
  rintro e w1 ⟨ka, kc, rfl, hrow, b1⟩
  go_wp2_with fail
  refine hK.out _ _ (blk_whole (Blk.keep (Blk.drew KP.out) b1)) (fun hHeld => ?_)
  clear hK K hHeld
  replace KP := Lib.hid (Blk.keep (Blk.drew KP.out) b1)
  replace KR := Lib.hid (Blk.keep (Blk.drew KR.out) b1)
  have HB := Lib.hid (bthen (balloc (alloc_below _ _) _) (bdrew b1))
  have HRow := Lib.hid hrow
  have hHeld : Hid (w1.rangeAt w.heap.size 0 (pl P)) := Lib.hid (blk_whole KP.out)
  clear b1 hrow
  replace hHeld := hHeld.out
  refine rd 4 (fun K hK => ?_)
  go_simp
  go_at_call 135
  refine (HC.out _ _ _ HRow.out).mono ?_
  rintro e w2 ⟨rfl, b2⟩
  go_wp2_with fail
  refine hK.out _ _ (blk_whole (Blk.keep KP.out b2)) (fun hHeld => ?_)
  clear hK K hHeld
  replace KP := Lib.hid (Blk.keep KP.out b2)
  replace KR := Lib.hid (Blk.keep KR.out b2)
  replace HB := Lib.hid (bthen HB.out b2)
  have hHeld := blk_whole KP.out
  clear b2 HRow
  have HS5 := Lib.hid (splice_all (X := pl R) (Z := pl zT) rfl ▸ blk_setCells (pl R) KR.out (by simp [pl_len]))
  refine rd 5 (fun K hK => ?_)
  rw [if_pos (by rfl)]
  refine wp_store_mid 43 _ _ rfl (w.heap.size + 1) 0 (pl R).toArray rfl rfl (blk_there KR.out (by simp [pl_len])) (pl_size' _) (pl_one _) ?_
  refine hK.out _ _ (blk_whole (blk_setFar _ KP.out (by omega))) (fun hHeld => ?_)
  clear hK K
  refine wpAnyH_done (by kernel_rfl) ?_ _
  clear hHeld
  go_wp2_with fail
  refine fin (fun W => Blk W (w.heap.size + 1) 43 (pl R).toArray ∧ Below w.heap.size w W) ⟨HS5.out, below_setCells _ HB.out (by omega)⟩ ?_
  rintro W ⟨kr, hb⟩
  have hl := run_loadVar_mid W (w.heap.size + 1) 0 43 (pl R) _ (blk_whole kr) Tryz.underlying43 rfl (pl_size R)
  exact bodyPost_ret (v := .agg (pl R).toArray) (results_cell Tryz.results136 rfl hl) rfl ⟨rfl, hb⟩

set_option maxHeartbeats 4000000 in
set_option maxRecDepth 100000 in
theorem bare_any (P : PT) (w : World) :
    Calls Tryz.prog 126 #[.agg (pl P).toArray] w fun e w' => e = .returned (.bool (bareB P)) ∧ Below w.heap.size w w' := by
  have HC := Lib.hid (only_any P P.1)
  have heq := eqT_run (pickT P.1 P) P
  rw [show eqT (pickT P.1 P) P = bareB P from rfl] at heq
  obtain ⟨R, hR⟩ : ∃ R, R = pickT P.1 P := ⟨_, rfl⟩
  rw [← hR] at HC heq
  clear hR
  obtain ⟨b, hb⟩ : ∃ b, b = bareB P := ⟨_, rfl⟩
  rw [← hb] at heq
  rw [← hb]
  clear hb
  have hu := Tryz.underlying43
  have HSz := Lib.hid (pl_size P)
  have KP := Lib.hid (Blk.new w 43 (pl P).toArray)
  go_enter Tryz.func126, Tryz.ntmps126
  go_wp2
  refine wp_region_held_drew (S := fun w' => w'.rangeAt w.heap.size 0 (pl P) ∧ w'.cell? ⟨w.heap.size, 0, none⟩ = some (.int .i64 P.1)) (by kernel_rfl) ⟨blk_whole (Blk.drew KP.out), KP.out.cell 0⟩ (fun hHeld => ?_)
  refine tkl 0 rfl (yieldsIf_load_mid (by rfl) _ _ rfl _ _ rfl _ _ (fun _ h => h.1) hu rfl HSz.out) hHeld ?_
  refine wpAnyH_take (i := 1) (v := ?_) rfl (by kernel_rfl) (by kernel_rfl) (by kernel_rfl) (fun _ _ _ h => h) (Or.inl ⟨by rfl, ?_⟩) hHeld ?_
  rotate_left
  · rintro w ⟨s1, s2⟩
    go_simp
    with_reducible rfl
  simp only [Act.put, List.getElem_toArray, List.getElem_cons_zero, List.getElem_cons_succ, List.setIfInBounds_toArray, List.set_cons_zero, List.set_cons_succ]
  refine wpAnyH_take (i := 2) (v := ?_) rfl (by kernel_rfl) (by kernel_rfl) (by kernel_rfl) (fun _ _ _ h => h) (Or.inl ⟨by rfl, ?_⟩) hHeld ?_
  rotate_left
  · rintro w ⟨s1, s2⟩
    go_simp
    with_reducible rfl
  simp only [Act.put, List.getElem_toArray, List.getElem_cons_zero, List.getElem_cons_succ, List.setIfInBounds_toArray, List.set_cons_zero, List.set_cons_succ]
  refine tkl 4 rfl (yieldsIf_load_mid (by rfl) _ _ rfl _ _ rfl _ _ (fun _ h => h.1) hu rfl HSz.out) hHeld ?_
  refine rd 3 (fun K hK => ?_)
  go_simp
  go_at_call 136
  refine (HC.out _).mono ?_
  rintro e w1 ⟨rfl, b1⟩
  go_wp2_with fail
  refine hK.out _ _ ⟨blk_whole (Blk.keep (Blk.drew KP.out) b1), (Blk.keep (Blk.drew KP.out) b1).cell 0⟩ (fun hHeld => ?_)
  clear hK K
  have HB := Lib.hid (bthen (alloc_below _ _) (bdrew b1))
  clear b1
  refine wpAnyH_take (i := 5) (v := ?_) rfl (by kernel_rfl) (by kernel_rfl) (by kernel_rfl) (fun _ _ _ h => h) (Or.inl ⟨by rfl, ?_⟩) hHeld ?_
  rotate_left
  · rintro w ⟨s1, s2⟩
    go_simp
    with_reducible rfl
  simp only [Act.put, List.getElem_toArray, List.getElem_cons_zero, List.getElem_cons_succ, List.setIfInBounds_toArray, List.set_cons_zero, List.set_cons_succ]
  refine wpAnyH_take (i := 6) (v := ?_) rfl (by kernel_rfl) (by kernel_rfl) (by kernel_rfl) (fun _ _ _ h => h) (Or.inl ⟨by rfl, ?_⟩) hHeld ?_
  rotate_left
  · rintro w ⟨s1, s2⟩
    go_simp
    with_reducible rfl
  simp only [Act.put, List.getElem_toArray, List.getElem_cons_zero, List.getElem_cons_succ, List.setIfInBounds_toArray, List.set_cons_zero, List.set_cons_succ]
  refine wpAnyH_done (by kernel_rfl) ?_ _
  clear hHeld
  go_wp2_with fail
  go_ret
  exact ⟨rfl, HB.out⟩

theorem wpList_load_g {ops : Array Oper} {rest : List Oper} {op : Oper} {a : Act} {w : World} {Q : Exit → Act → World → Prop} (hw : Region.wanted op (yielded ops a.tmps) = true) (ty : TypeId) (x : Operand) (ho : op.op = .load ty x)
    (b o : Nat) (hx : a.eval x = .pointer (some ⟨b, o, none⟩)) (cs : List Value) (d : TypeDesc) (hc : w.rangeAt b o cs)
    (hu : Tryz.prog.underlying ty = some d) (hd : d.isRow = true) (hi : (Tryz.prog.info? ty).map (·.size) = some cs.length)
    (h : wpList Tryz.prog ops Q rest (a.put op.dst (.agg cs.toArray)) w) : wpList Tryz.prog ops Q (op :: rest) a w := by
  rw [wpList, if_pos hw]
  exact Or.inl (wp_load_mid ty x ho b o hx cs d hc hu hd hi h)

set_option maxHeartbeats 4000000 in
set_option maxRecDepth 100000 in
theorem val_any (h : Int) (M : Nat → Int) (m : Int) (B : Nat → Int) (p a : Int) (c : Bool) (l : Int) (w : World) :
    Calls Tryz.prog 125 #[.agg (PL h M m B p a c l).toArray] w fun e w' => e = .returned (.bool (restB M m B p a l)) ∧ Below w.heap.size w w' := by
  unfold restB
  obtain ⟨b1, h1⟩ : ∃ b, okM M = b := ⟨_, rfl⟩
  obtain ⟨b2, h2⟩ : ∃ b, inB m 255 = b := ⟨_, rfl⟩
  obtain ⟨b3, h3⟩ : ∃ b, okBox B = b := ⟨_, rfl⟩
  obtain ⟨b4, h4⟩ : ∃ b, inB p 63 = b := ⟨_, rfl⟩
  obtain ⟨b5, h5⟩ : ∃ b, inB a 255 = b := ⟨_, rfl⟩
  obtain ⟨b6, h6⟩ : ∃ b, inB l 255 = b := ⟨_, rfl⟩
  have H1 := Lib.hid h1
  have H2 := Lib.hid h2
  have H3 := Lib.hid h3
  have H4 := Lib.hid h4
  have H5 := Lib.hid h5
  have H6 := Lib.hid h6
  rw [h1, h2, h3, h4, h5, h6]
  clear h1 h2 h3 h4 h5 h6
  have HR1 : Hid (∀ u g, Blk u g 43 (PL h M m B p a c l).toArray → u.rangeAt g 1 [.int .i64 (M 0), .int .i64 (M 1), .int .i64 (M 2), .int .i64 (M 3), .int .i64 (M 4), .int .i64 (M 5), .int .i64 (M 6), .int .i64 (M 7), .int .i64 (M 8), .int .i64 (M 9), .int .i64 (M 10), .int .i64 (M 11)]) := Lib.hid (fun u g k => blk_range k 1 12)
  have HR2 : Hid (∀ u g, Blk u g 43 (PL h M m B p a c l).toArray → u.rangeAt g 14 [.int .i64 (B 0), .int .i64 (B 1), .int .i64 (B 2), .int .i64 (B 3), .int .i64 (B 4), .int .i64 (B 5)]) := Lib.hid (fun u g k => blk_range k 14 6)
  have HC : Hid (∀ u g, Blk u g 43 (PL h M m B p a c l).toArray → u.cell? ⟨g, 13, none⟩ = some (.int .i64 m) ∧ u.cell? ⟨g, 20, none⟩ = some (.int .i64 p) ∧ u.cell? ⟨g, 21, none⟩ = some (.int .i64 a) ∧ u.cell? ⟨g, 23, none⟩ = some (.int .i64 l)) := Lib.hid (fun u g k => ⟨k.cell 13, k.cell 20, k.cell 21, k.cell 23⟩)
  have HS1 : Hid ((Tryz.prog.info? 37).map (·.size) = some ([.int .i64 (M 0), .int .i64 (M 1), .int .i64 (M 2), .int .i64 (M 3), .int .i64 (M 4), .int .i64 (M 5), .int .i64 (M 6), .int .i64 (M 7), .int .i64 (M 8), .int .i64 (M 9), .int .i64 (M 10), .int .i64 (M 11)] : List Value).length) := Lib.hid (by kernel_rfl)
  have HS2 : Hid ((Tryz.prog.info? 41).map (·.size) = some ([.int .i64 (B 0), .int .i64 (B 1), .int .i64 (B 2), .int .i64 (B 3), .int .i64 (B 4), .int .i64 (B 5)] : List Value).length) := Lib.hid (by kernel_rfl)
  obtain ⟨X, hX⟩ : ∃ X, X = PL h M m B p a c l := ⟨_, rfl⟩
  rw [← hX] at HR1 HR2 HC
  rw [← hX]
  clear hX
  have KP := Lib.hid (Blk.new w 43 X.toArray)
  go_enter Tryz.func125, Tryz.ntmps125
  go_wp2_with (refine wpList_load_mid rfl 37 (.tmp 3) rfl w.heap.size 1 rfl [.int .i64 (M 0), .int .i64 (M 1), .int .i64 (M 2), .int .i64 (M 3), .int .i64 (M 4), .int .i64 (M 5), .int .i64 (M 6), .int .i64 (M 7), .int .i64 (M 8), .int .i64 (M 9), .int .i64 (M 10), .int .i64 (M 11)] _ (HR1.out _ _ KP.out) Tryz.underlying37 rfl HS1.out ?_)
  refine (mright1 H1.out (blkAt (Blk.new _ _ _) (by simp))).mono ?_
  rintro e w1 ⟨rfl, k1⟩
  replace KP := Lib.hid ((KP.out.alloc _).keep k1)
  have HB := Lib.hid (bthen (balloc (alloc_below _ _) _) k1)
  clear k1 H1
  cases b1 with
  | false =>
    go_wp2
    go_ret
    exact ⟨rfl, HB.out⟩
  | true =>
    obtain ⟨c13, c20, c21, c23⟩ := HC.out _ _ KP.out
    have z := KP.out.lt
    go_wp2_with fail
    refine (pin_bb H2.out _).mono ?_
    rintro e w2 ⟨rfl, rfl⟩
    clear H2
    cases b2 with
    | false =>
      go_wp2
      go_ret
      exact ⟨rfl, HB.out⟩
    | true =>
      go_wp2_with (refine wpList_load_g (by rfl) 41 (.tmp 13) rfl w.heap.size 14 rfl [.int .i64 (B 0), .int .i64 (B 1), .int .i64 (B 2), .int .i64 (B 3), .int .i64 (B 4), .int .i64 (B 5)] _ (HR2.out _ _ KP.out) Tryz.underlying41 rfl HS2.out ?_)
      refine (shright1 H3.out (Blk.new _ _ _)).mono ?_
      rintro e w3 ⟨rfl, k3⟩
      replace KP := Lib.hid ((KP.out.alloc _).keep k3)
      replace HB := Lib.hid (bthen (balloc HB.out _) k3)
      clear k3 c13 c20 c21 c23 z H3
      obtain ⟨c13, c20, c21, c23⟩ := HC.out _ _ KP.out
      have z := KP.out.lt
      cases b3 with
      | false =>
        go_wp2
        go_ret
        exact ⟨rfl, HB.out⟩
      | true =>
        go_wp2_with fail
        refine (pin_bb H4.out _).mono ?_
        rintro e w4 ⟨rfl, rfl⟩
        clear H4
        cases b4 with
        | false =>
          go_wp2
          go_ret
          exact ⟨rfl, HB.out⟩
        | true =>
          go_wp2_with fail
          refine (pin_bb H5.out _).mono ?_
          rintro e w5 ⟨rfl, rfl⟩
          clear H5
          cases b5 with
          | false =>
            go_wp2
            go_ret
            exact ⟨rfl, HB.out⟩
          | true =>
            go_wp2_with fail
            refine (pin_bb H6.out _).mono ?_
            rintro e w6 ⟨rfl, rfl⟩
            clear H6
            go_wp2
            go_ret
            exact ⟨by simp, HB.out⟩
theorem valT {P : PT} {b : Bool} (h : valB P = b) (w : World) : Calls Tryz.prog 125 #[.agg (pl P).toArray] w fun e w' => e = .returned (.bool b) ∧ Below w.heap.size w w' := by
  subst h
  exact val_any _ _ _ _ _ _ _ _ w
theorem bareT {P : PT} {b : Bool} (h : bareB P = b) (w : World) : Calls Tryz.prog 126 #[.agg (pl P).toArray] w fun e w' => e = .returned (.bool b) ∧ Below w.heap.size w w' := by
  subst h
  exact bare_any P w

set_option maxHeartbeats 2000000 in
set_option maxRecDepth 100000 in
theorem pright_any (P : PT) (w : World) :
    Calls Tryz.prog 91 #[.agg (pl P).toArray] w fun e w' => e = .returned (.bool (rightT P)) ∧ Below w.heap.size w w' := by
  rw [right_split]
  obtain ⟨b1, h1⟩ : ∃ b, valB P = b := ⟨_, rfl⟩
  obtain ⟨b2, h2⟩ : ∃ b, bareB P = b := ⟨_, rfl⟩
  have H1 := Lib.hid h1
  have H2 := Lib.hid h2
  rw [h1, h2]
  clear h1 h2
  have KP := Lib.hid (Blk.new w 43 (pl P).toArray)
  have HSz := Lib.hid (pl_size P)
  go_enter Tryz.func91, Tryz.ntmps91
  go_wp2_with (refine wpList_load_mid rfl 43 (.tmp 1) rfl w.heap.size 0 rfl (pl P) _ (blk_whole KP.out) Tryz.underlying43 rfl HSz.out ?_)
  refine (valT H1.out _).mono ?_
  rintro e w1 ⟨rfl, k1⟩
  replace KP := Lib.hid (KP.out.keep k1)
  have HB := Lib.hid (bthen (alloc_below _ _) k1)
  clear k1 H1
  cases b1 with
  | false =>
    go_wp2
    go_ret
    exact ⟨rfl, HB.out⟩
  | true =>
    go_wp2_with (refine wpList_load_g (by rfl) 43 (.tmp 1) rfl w.heap.size 0 rfl (pl P) _ (blk_whole KP.out) Tryz.underlying43 rfl HSz.out ?_)
    refine (bareT H2.out _).mono ?_
    rintro e w2 ⟨rfl, k2⟩
    replace HB := Lib.hid (bthen HB.out k2)
    clear k2 H2
    go_wp2
    go_ret
    exact ⟨by simp, HB.out⟩
theorem prightT {P : PT} {b : Bool} (h : rightT P = b) (w : World) : Calls Tryz.prog 91 #[.agg (pl P).toArray] w fun e w' => e = .returned (.bool b) ∧ Below w.heap.size w w' := by
  subst h
  exact pright_any P w

theorem hasAll_ok {s : Int} {ks : List Int} (h : hasAll s ks = true) : ksOk ks = true := by
  cases c : ksOk ks with
  | true => rfl
  | false => rw [hasAll_no c] at h; cases h

set_option maxHeartbeats 4000000 in
set_option maxRecDepth 100000 in
theorem pwith_any (P Q : PT) (a : Option Addr) (len cap : Nat) (ks : List Int) (w : World) (row : Row w a len ks) :
    Calls Tryz.prog 101 #[.agg (pl P).toArray, .agg (pl Q).toArray, .slice a len cap] w fun e w' => e = .returned (.tuple #[.agg (pl (withV P Q ks)).toArray, .int .i64 (withE P Q ks)]) ∧ Below w.heap.size w w' := by
  have HRow := Lib.hid row
  clear row
  obtain ⟨b1, h1⟩ : ∃ b, rightT P = b := ⟨_, rfl⟩
  obtain ⟨b2, h2⟩ : ∃ b, rightT Q = b := ⟨_, rfl⟩
  obtain ⟨b3, h3⟩ : ∃ b, hasAll Q.1 ks = b := ⟨_, rfl⟩
  have H1 := Lib.hid h1
  have H2 := Lib.hid h2
  have H3 := Lib.hid h3
  have HOk : Hid (withOk P Q ks = (b1 && b2 && b3)) := Lib.hid (by unfold withOk; rw [h1, h2, h3])
  clear h1 h2 h3
  have HSZ := Lib.hid (pl_size' zT)
  have HOZ := Lib.hid (pl_one zT)
  have HLZ := Lib.hid (pl_len zT)
  have HSzP := Lib.hid (pl_size P)
  have HSzQ := Lib.hid (pl_size Q)
  have KP := Lib.hid (((Blk.new w 43 (pl P).toArray).alloc (.cells (pl Q).toArray 43)).alloc (.cells (pl zT).toArray 43))
  have KQ := Lib.hid (blkAt ((Blk.new (w.alloc (.cells (pl P).toArray 43)) 43 (pl Q).toArray).alloc (.cells (pl zT).toArray 43)) (g' := w.heap.size + 1) (by simp))
  have KR := Lib.hid (blkAt (Blk.new ((w.alloc (.cells (pl P).toArray 43)).alloc (.cells (pl Q).toArray 43)) 43 (pl zT).toArray) (g' := w.heap.size + 1 + 1) (by simp))
  go_enter Tryz.func101, Tryz.ntmps101
  go_wp2_with (refine wpList_load_mid rfl 43 (.tmp 3) rfl w.heap.size 0 rfl (pl P) _ (blk_whole KP.out) Tryz.underlying43 rfl HSzP.out ?_)
  refine (prightT H1.out _).mono ?_
  rintro e w1 ⟨rfl, k1⟩
  replace KP := Lib.hid (KP.out.keep k1)
  replace KQ := Lib.hid (KQ.out.keep k1)
  replace KR := Lib.hid (KR.out.keep k1)
  have HB := Lib.hid (bthen (balloc (balloc (alloc_below _ _) _) _) k1)
  replace HRow := Lib.hid (row_keep HRow.out HB.out)
  clear k1
  cases b1 with
  | false =>
    have HNo := Lib.hid (with_no (P := P) (Q := Q) (ks := ks) (by rw [HOk.out]; rfl))
    go_wp2_with (refine wpList_store_mid rfl 43 (.tmp 6) (.tmp 23) rfl (w.heap.size + 1 + 1) 0 (pl zT).toArray rfl rfl (blk_there KR.out (by simp [HLZ.out])) HSZ.out HOZ.out ?_)
    have KW := Lib.hid (splice_all (X := pl zT) (Z := pl zT) rfl ▸ blk_setCells (pl zT) KR.out (by omega))
    refine fin (fun W => Blk W (w.heap.size + 1 + 1) 43 (pl zT).toArray ∧ Below w.heap.size w W) ⟨KW.out, below_setCells _ HB.out (by omega)⟩ ?_
    rintro W ⟨kr, hb⟩
    have hl := run_loadVar_mid W (w.heap.size + 1 + 1) 0 43 (pl zT) _ (blk_whole kr) Tryz.underlying43 rfl (pl_size zT)
    exact bodyPost_ret (v := .tuple #[.agg (pl zT).toArray, .int .i64 1]) (results_cell2 Tryz.results101 rfl rfl hl) rfl ⟨by rw [HNo.out.1, HNo.out.2], hb⟩
  | true =>
    go_wp2_with (refine wpList_load_g (by rfl) 43 (.tmp 4) rfl (w.heap.size + 1) 0 rfl (pl Q) _ (blk_whole KQ.out) Tryz.underlying43 rfl HSzQ.out ?_)
    refine (prightT H2.out _).mono ?_
    rintro e w2 ⟨rfl, k2⟩
    replace KP := Lib.hid (KP.out.keep k2)
    replace KQ := Lib.hid (KQ.out.keep k2)
    replace KR := Lib.hid (KR.out.keep k2)
    replace HB := Lib.hid (bthen HB.out k2)
    replace HRow := Lib.hid (row_keep HRow.out k2)
    clear k2
    cases b2 with
    | false =>
      have HNo := Lib.hid (with_no (P := P) (Q := Q) (ks := ks) (by rw [HOk.out]; rfl))
      go_wp2_with (refine wpList_store_mid rfl 43 (.tmp 6) (.tmp 23) rfl (w.heap.size + 1 + 1) 0 (pl zT).toArray rfl rfl (blk_there KR.out (by simp [HLZ.out])) HSZ.out HOZ.out ?_)
      have KW := Lib.hid (splice_all (X := pl zT) (Z := pl zT) rfl ▸ blk_setCells (pl zT) KR.out (by omega))
      refine fin (fun W => Blk W (w.heap.size + 1 + 1) 43 (pl zT).toArray ∧ Below w.heap.size w W) ⟨KW.out, below_setCells _ HB.out (by omega)⟩ ?_
      rintro W ⟨kr, hb⟩
      have hl := run_loadVar_mid W (w.heap.size + 1 + 1) 0 43 (pl zT) _ (blk_whole kr) Tryz.underlying43 rfl (pl_size zT)
      exact bodyPost_ret (v := .tuple #[.agg (pl zT).toArray, .int .i64 1]) (results_cell2 Tryz.results101 rfl rfl hl) rfl ⟨by rw [HNo.out.1, HNo.out.2], hb⟩
    | true =>
      have cq : w2.cell? ⟨w.heap.size + 1, 0, none⟩ = some (.int .i64 Q.1) := KQ.out.cell 0
      have zq := KQ.out.lt
      go_wp2_with fail
      refine (phas_b H3.out _ _ _ _ HRow.out).mono ?_
      rintro e w3 ⟨rfl, rfl⟩
      clear cq zq
      cases b3 with
      | false =>
        have HNo := Lib.hid (with_no (P := P) (Q := Q) (ks := ks) (by rw [HOk.out]; rfl))
        go_wp2_with (refine wpList_store_mid rfl 43 (.tmp 6) (.tmp 23) rfl (w.heap.size + 1 + 1) 0 (pl zT).toArray rfl rfl (blk_there KR.out (by simp [HLZ.out])) HSZ.out HOZ.out ?_)
        have KW := Lib.hid (splice_all (X := pl zT) (Z := pl zT) rfl ▸ blk_setCells (pl zT) KR.out (by omega))
        refine fin (fun W => Blk W (w.heap.size + 1 + 1) 43 (pl zT).toArray ∧ Below w.heap.size w W) ⟨KW.out, below_setCells _ HB.out (by omega)⟩ ?_
        rintro W ⟨kr, hb⟩
        have hl := run_loadVar_mid W (w.heap.size + 1 + 1) 0 43 (pl zT) _ (blk_whole kr) Tryz.underlying43 rfl (pl_size zT)
        exact bodyPost_ret (v := .tuple #[.agg (pl zT).toArray, .int .i64 1]) (results_cell2 Tryz.results101 rfl rfl hl) rfl ⟨by rw [HNo.out.1, HNo.out.2], hb⟩
      | true =>
        have HYes := Lib.hid (with_yes (P := P) (Q := Q) (ks := ks) (by rw [HOk.out]; rfl))
        go_wp2_with (first | refine wpList_load_mid rfl 43 (.tmp 3) rfl w.heap.size 0 rfl (pl P) _ (blk_whole KP.out) Tryz.underlying43 rfl HSzP.out ?_ | refine wpList_load_mid rfl 43 (.tmp 4) rfl (w.heap.size + 1) 0 rfl (pl Q) _ (blk_whole KQ.out) Tryz.underlying43 rfl HSzQ.out ?_)
        refine (lay_any P Q _ _ _ ks _ (right_bound H1.out) (hasAll_ok H3.out) HRow.out).mono ?_
        rintro e w4 ⟨rfl, k4⟩
        replace KP := Lib.hid (KP.out.keep k4)
        replace KQ := Lib.hid (KQ.out.keep k4)
        replace KR := Lib.hid (KR.out.keep k4)
        replace HB := Lib.hid (bthen HB.out k4)
        clear k4 HRow
        obtain ⟨R, hR⟩ : ∃ R, R = withT P Q ks := ⟨_, rfl⟩
        rw [← hR] at HYes
        rw [← hR]
        clear hR
        have HS5 := Lib.hid (splice_all (X := pl R) (Z := pl zT) rfl ▸ blk_setCells (pl R) KR.out (by simp [pl_len]))
        go_wp2_with (refine wpList_store_mid rfl 43 (.tmp 6) (.tmp 27) rfl (w.heap.size + 1 + 1) 0 (pl R).toArray rfl rfl (blk_there KR.out (by simp [pl_len])) (pl_size' _) (pl_one _) ?_)
        refine fin (fun W => Blk W (w.heap.size + 1 + 1) 43 (pl R).toArray ∧ Below w.heap.size w W) ⟨HS5.out, below_setCells _ HB.out (by omega)⟩ ?_
        rintro W ⟨kr, hb⟩
        have hl := run_loadVar_mid W (w.heap.size + 1 + 1) 0 43 (pl R) _ (blk_whole kr) Tryz.underlying43 rfl (pl_size R)
        exact bodyPost_ret (v := .tuple #[.agg (pl R).toArray, .int .i64 0]) (results_cell2 Tryz.results101 rfl rfl hl) rfl ⟨by rw [HYes.out.1, HYes.out.2], hb⟩

def woutP (P : PT) (ks : List Int) : PT := pickT (bits .andNot .i64 P.1 (ksS ks)) P
def woutPV (P : PT) (ks : List Int) : PT := if woutOk P ks then woutP P ks else zT
set_option maxHeartbeats 4000000 in
set_option maxRecDepth 100000 in
theorem pwout_any (P : PT) (a : Option Addr) (len cap : Nat) (ks : List Int) (w : World) (row : Row w a len ks) :
    Calls Tryz.prog 103 #[.agg (pl P).toArray, .slice a len cap] w fun e w' => e = .returned (.tuple #[.agg (pl (woutPV P ks)).toArray, .int .i64 (woutE P ks)]) ∧ Below w.heap.size w w' := by
  have HRow := Lib.hid row
  clear row
  obtain ⟨b1, h1⟩ : ∃ b, rightT P = b := ⟨_, rfl⟩
  obtain ⟨b2, h2⟩ : ∃ b, ksOk ks = b := ⟨_, rfl⟩
  have H1 := Lib.hid h1
  have HOk : Hid (woutOk P ks = (b1 && b2)) := Lib.hid (by unfold woutOk; rw [h1, h2])
  have HKs : Hid (ksV ks = (if b2 then ksS ks else 0) ∧ ksE ks = (if b2 then 0 else 1)) := Lib.hid (by unfold ksV ksE; rw [h2]; exact ⟨rfl, rfl⟩)
  clear h1 h2
  have HSZ := Lib.hid (pl_size' zT)
  have HOZ := Lib.hid (pl_one zT)
  have HLZ := Lib.hid (pl_len zT)
  have HSzP := Lib.hid (pl_size P)
  have KP := Lib.hid ((Blk.new w 43 (pl P).toArray).alloc (.cells (pl zT).toArray 43))
  have KR := Lib.hid (blkAt (Blk.new (w.alloc (.cells (pl P).toArray 43)) 43 (pl zT).toArray) (g' := w.heap.size + 1) (by simp))
  have HB := Lib.hid (balloc (alloc_below w (.cells (pl P).toArray 43)) (.cells (pl zT).toArray 43))
  replace HRow := Lib.hid (row_keep HRow.out HB.out)
  go_enter Tryz.func103, Tryz.ntmps103
  go_wp2_with fail
  refine (pof_any _ _ _ ks _ HRow.out).mono ?_
  rintro e w1 ⟨rfl, rfl⟩
  rw [HKs.out.1, HKs.out.2]
  clear HKs
  cases b2 with
  | false =>
    have HNo : Hid (woutE P ks = 1 ∧ woutPV P ks = zT) := Lib.hid (by unfold woutE woutPV; rw [HOk.out]; cases b1 <;> exact ⟨rfl, rfl⟩)
    simp only [if_neg Bool.false_ne_true]
    go_wp2_with (refine wpList_store_mid rfl 43 (.tmp 4) (.tmp 20) rfl (w.heap.size + 1) 0 (pl zT).toArray rfl rfl (blk_there KR.out (by simp [HLZ.out])) HSZ.out HOZ.out ?_)
    have KW := Lib.hid (splice_all (X := pl zT) (Z := pl zT) rfl ▸ blk_setCells (pl zT) KR.out (by omega))
    refine fin (fun W => Blk W (w.heap.size + 1) 43 (pl zT).toArray ∧ Below w.heap.size w W) ⟨KW.out, below_setCells _ HB.out (by omega)⟩ ?_
    rintro W ⟨kr, hb⟩
    have hl := run_loadVar_mid W (w.heap.size + 1) 0 43 (pl zT) _ (blk_whole kr) Tryz.underlying43 rfl (pl_size zT)
    exact bodyPost_ret (v := .tuple #[.agg (pl zT).toArray, .int .i64 1]) (results_cell2 Tryz.results103 rfl rfl hl) rfl ⟨by rw [HNo.out.1, HNo.out.2], hb⟩
  | true =>
    simp only [if_true]
    obtain ⟨t, ht⟩ : ∃ t, t = ksS ks := ⟨_, rfl⟩
    rw [← ht]
    have HT := Lib.hid ht
    clear ht
    go_wp2_with (refine wpList_load_g (by rfl) 43 (.tmp 2) rfl w.heap.size 0 rfl (pl P) _ (blk_whole KP.out) Tryz.underlying43 rfl HSzP.out ?_)
    refine (prightT H1.out _).mono ?_
    rintro e w2 ⟨rfl, k2⟩
    replace KP := Lib.hid (KP.out.keep k2)
    replace KR := Lib.hid (KR.out.keep k2)
    replace HB := Lib.hid (bthen HB.out k2)
    clear k2 HRow
    cases b1 with
    | false =>
      have HNo : Hid (woutE P ks = 1 ∧ woutPV P ks = zT) := Lib.hid (by unfold woutE woutPV; rw [HOk.out]; exact ⟨rfl, rfl⟩)
      go_wp2_with (refine wpList_store_mid rfl 43 (.tmp 4) (.tmp 20) rfl (w.heap.size + 1) 0 (pl zT).toArray rfl rfl (blk_there KR.out (by simp [HLZ.out])) HSZ.out HOZ.out ?_)
      have KW := Lib.hid (splice_all (X := pl zT) (Z := pl zT) rfl ▸ blk_setCells (pl zT) KR.out (by omega))
      refine fin (fun W => Blk W (w.heap.size + 1) 43 (pl zT).toArray ∧ Below w.heap.size w W) ⟨KW.out, below_setCells _ HB.out (by omega)⟩ ?_
      rintro W ⟨kr, hb⟩
      have hl := run_loadVar_mid W (w.heap.size + 1) 0 43 (pl zT) _ (blk_whole kr) Tryz.underlying43 rfl (pl_size zT)
      exact bodyPost_ret (v := .tuple #[.agg (pl zT).toArray, .int .i64 1]) (results_cell2 Tryz.results103 rfl rfl hl) rfl ⟨by rw [HNo.out.1, HNo.out.2], hb⟩
    | true =>
      have HYes : Hid (woutE P ks = 0 ∧ woutPV P ks = pickT (bits .andNot .i64 P.1 t) P) := Lib.hid (by unfold woutE woutPV woutP; rw [HOk.out, HT.out]; exact ⟨rfl, rfl⟩)
      have HOn := Lib.hid (only_any P (bits .andNot .i64 P.1 t))
      obtain ⟨R, hR⟩ : ∃ R, R = pickT (bits .andNot .i64 P.1 t) P := ⟨_, rfl⟩
      rw [← hR] at HYes HOn
      clear hR
      have cp : w2.cell? ⟨w.heap.size, 0, none⟩ = some (.int .i64 P.1) := KP.out.cell 0
      have zp := KP.out.lt
      go_wp2_with (refine wpList_load_mid rfl 43 (.tmp 2) rfl w.heap.size 0 rfl (pl P) _ (blk_whole KP.out) Tryz.underlying43 rfl HSzP.out ?_)
      refine (HOn.out _).mono ?_
      rintro e w4 ⟨rfl, k4⟩
      replace KP := Lib.hid (KP.out.keep k4)
      replace KR := Lib.hid (KR.out.keep k4)
      replace HB := Lib.hid (bthen HB.out k4)
      clear k4 cp zp HOn
      have HS5 := Lib.hid (splice_all (X := pl R) (Z := pl zT) rfl ▸ blk_setCells (pl R) KR.out (by simp [pl_len]))
      go_wp2_with (refine wpList_store_mid rfl 43 (.tmp 4) (.tmp 26) rfl (w.heap.size + 1) 0 (pl R).toArray rfl rfl (blk_there KR.out (by simp [pl_len])) (pl_size' _) (pl_one _) ?_)
      refine fin (fun W => Blk W (w.heap.size + 1) 43 (pl R).toArray ∧ Below w.heap.size w W) ⟨HS5.out, below_setCells _ HB.out (by omega)⟩ ?_
      rintro W ⟨kr, hb⟩
      have hl := run_loadVar_mid W (w.heap.size + 1) 0 43 (pl R) _ (blk_whole kr) Tryz.underlying43 rfl (pl_size R)
      exact bodyPost_ret (v := .tuple #[.agg (pl R).toArray, .int .i64 0]) (results_cell2 Tryz.results103 rfl rfl hl) rfl ⟨by rw [HYes.out.1, HYes.out.2], hb⟩

theorem eqT_pl {P Q : PT} (h : eqT P Q = true) : pl P = pl Q := by
  obtain ⟨h1, M, m, B, p, a, c, l⟩ := P
  obtain ⟨h2, N, n, C, q, b, d, k⟩ := Q
  unfold eqT eqP eq12 eq6 at h
  simp only [Bool.and_eq_true, beq_iff_eq] at h
  obtain ⟨⟨⟨⟨⟨⟨⟨e1, ⟨⟨⟨⟨⟨⟨⟨⟨⟨⟨⟨m0, m1⟩, m2⟩, m3⟩, m4⟩, m5⟩, m6⟩, m7⟩, m8⟩, m9⟩, m10⟩, m11⟩⟩, e2⟩, ⟨⟨b0, b1⟩, b2⟩, ⟨b3, b4⟩, b5⟩, e3⟩, e4⟩, e5⟩, e6⟩ := h
  unfold pl PL
  simp only [e1, m0, m1, m2, m3, m4, m5, m6, m7, m8, m9, m10, m11, e2, b0, b1, b2, b3, b4, b5, e3, e4, e5, e6]
theorem pl_head {P Q : PT} (h : pl P = pl Q) : P.1 = Q.1 := by
  unfold pl PL at h
  simp only [List.cons.injEq, Value.int.injEq, true_and] at h
  exact h.1
theorem right_bare {P : PT} (h : rightT P = true) : pl (pickT P.1 P) = pl P := by
  rw [right_split, Bool.and_eq_true] at h
  exact eqT_pl h.2
theorem stepO_congr {P Q : PT} (h : pl P = pl Q) (k : Int) : pl (stepO P k) = pl (stepO Q k) := by
  have e : ∀ P : PT, pl (stepO P k) = layP k ((pl P).set 0 (.int .i64 (subK P.1 k))) (pl zT) := fun P => by unfold stepO; rw [← layT_pl]; rfl
  rw [e, e, h, pl_head h]
theorem woutT_congr : ∀ (ks : List Int) {P Q : PT}, pl P = pl Q → pl (woutT P ks) = pl (woutT Q ks)
  | [], _, _, h => h
  | k :: r, _, _, h => woutT_congr r (stepO_congr h k)
theorem pick_step {s k : Int} (P : PT) (hs : 0 ≤ s ∧ s ≤ 31) (hk : kOk k = true) : stepO (pickT s P) k = pickT (subK s k) P := by
  have hb := subK_bound (k := k) hs
  have e1 : s % 32 = s := by omega
  have e2 : subK s k % 32 = subK s k := by omega
  have f0 := sub_has hs hk (j := 0) (by omega)
  have f1 := sub_has hs hk (j := 1) (by omega)
  have f2 := sub_has hs hk (j := 2) (by omega)
  have f3 := sub_has hs hk (j := 3) (by omega)
  unfold pickT
  rw [f0, f1, f2, f3, e2]
  unfold stepO
  rw [e1]
  clear f0 f1 f2 f3 e1 e2 hb hs
  generalize hasN s 0 = a0
  generalize hasN s 1 = a1
  generalize hasN s 2 = a2
  generalize hasN s 3 = a3
  rcases kOk_cases hk with rfl | rfl | rfl | rfl | rfl
  · cases a0 <;> cases a1 <;> cases a2 <;> cases a3 <;> rfl
  · cases a0 <;> cases a1 <;> cases a2 <;> cases a3 <;> rfl
  · cases a0 <;> cases a1 <;> cases a2 <;> cases a3 <;> rfl
  · cases a0 <;> cases a1 <;> cases a2 <;> cases a3 <;> rfl
  · cases a0 <;> cases a1 <;> cases a2 <;> cases a3 <;> rfl
theorem pick_wout : ∀ (ks : List Int) (s : Int) (P : PT), 0 ≤ s ∧ s ≤ 31 → ksOk ks = true → woutT (pickT s P) ks = pickT (ks.foldl subK s) P
  | [], _, _, _, _ => rfl
  | k :: r, s, P, hs, h => by
    unfold ksOk at h
    rw [List.all_cons, Bool.and_eq_true] at h
    have : woutT (pickT s P) (k :: r) = woutT (stepO (pickT s P) k) r := rfl
    rw [this, pick_step P hs h.1, pick_wout r _ P (subK_bound hs) h.2]
    rfl
theorem sub_not {s : Int} {ks : List Int} (hs : 0 ≤ s ∧ s ≤ 31) (h : ksOk ks = true) : ks.foldl subK s = bits .andNot .i64 s (ksS ks) :=
  set_ext (sub_bound ks s hs) (not_bound hs (ksS_bound h)) (fun j hj => by rw [fold_sub ks s hs h hj, not_has hs (ksS_bound h) hj, ksS_has h hj])
theorem wout_pick {P : PT} {ks : List Int} (hr : rightT P = true) (h : ksOk ks = true) : pl (woutT P ks) = pl (pickT (ks.foldl subK P.1) P) := by
  rw [← woutT_congr ks (right_bare hr), pick_wout ks P.1 P (right_bound hr) h]
theorem wout_same (P : PT) (ks : List Int) : pl (woutPV P ks) = pl (woutV P ks) := by
  unfold woutPV woutV
  by_cases c : woutOk P ks = true
  · rw [if_pos c, if_pos c]
    unfold woutOk at c
    rw [Bool.and_eq_true] at c
    rw [wout_pick c.1 c.2, sub_not (right_bound c.1) c.2]
    rfl
  · rw [if_neg c, if_neg c]
theorem pwoutT (P : PT) (a : Option Addr) (len cap : Nat) (ks : List Int) (w : World) (row : Row w a len ks) :
    Calls Tryz.prog 103 #[.agg (pl P).toArray, .slice a len cap] w fun e w' => e = .returned (.tuple #[.agg (pl (woutV P ks)).toArray, .int .i64 (woutE P ks)]) ∧ Below w.heap.size w w' := by
  have := pwout_any P a len cap ks w row
  rw [wout_same] at this
  exact this

theorem right_step {P Q : PT} {k : Int} (hp : rightT P = true) (hq : rightT Q = true) (hk : hasB Q.1 k = true) : rightT (stepW Q P k) = true := by
  have hb := right_bound hp
  have hok := has_kOk hk
  have hb2 := addK_bound hb hok
  have f0 := add_has hb hok (j := 0) (by omega)
  have f1 := add_has hb hok (j := 1) (by omega)
  have f2 := add_has hb hok (j := 2) (by omega)
  have f3 := add_has hb hok (j := 3) (by omega)
  have f4 := add_has hb hok (j := 4) (by omega)
  obtain ⟨h, M, m, B, p, a, c, l⟩ := P
  obtain ⟨h2, N, n, C, q, b, d, k2⟩ := Q
  unfold rightT rightP kindsB kindB restB at hp hq
  simp only [Bool.and_eq_true] at hp hq
  obtain ⟨⟨_, ⟨⟨⟨k0, k1⟩, k2⟩, k3⟩, k4⟩, ⟨⟨⟨⟨r0, r1⟩, r2⟩, r3⟩, r4⟩, r5⟩ := hp
  obtain ⟨⟨_, ⟨⟨⟨_, _⟩, _⟩, _⟩, _⟩, ⟨⟨⟨⟨q0, q1⟩, q2⟩, q3⟩, q4⟩, q5⟩ := hq
  unfold rightT rightP kindsB kindB restB stepW
  simp only [Bool.and_eq_true, decide_eq_true hb2.1, decide_eq_true hb2.2]
  clear hb2 hb hk
  rcases kOk_cases hok with rfl | rfl | rfl | rfl | rfl
  · exact ⟨⟨⟨trivial, trivial⟩, ⟨⟨⟨by rw [f0]; simp, by rw [f1]; simpa [layT, zkB] using k1⟩, by rw [f2]; simpa [layT, zkB] using k2⟩, by rw [f3]; simpa [layT, zkB] using k3⟩, by simp [zkB]⟩, ⟨⟨⟨⟨q0, r1⟩, r2⟩, r3⟩, r4⟩, r5⟩
  · exact ⟨⟨⟨trivial, trivial⟩, ⟨⟨⟨by rw [f0]; simpa [layT, zkB] using k0, by rw [f1]; simp⟩, by rw [f2]; simpa [layT, zkB] using k2⟩, by rw [f3]; simpa [layT, zkB] using k3⟩, by simp [zkB]⟩, ⟨⟨⟨⟨r0, q1⟩, q2⟩, r3⟩, r4⟩, r5⟩
  · exact ⟨⟨⟨trivial, trivial⟩, ⟨⟨⟨by rw [f0]; simpa [layT, zkB] using k0, by rw [f1]; simpa [layT, zkB] using k1⟩, by rw [f2]; simp⟩, by rw [f3]; simpa [layT, zkB] using k3⟩, by simp [zkB]⟩, ⟨⟨⟨⟨r0, r1⟩, r2⟩, q3⟩, q4⟩, r5⟩
  · exact ⟨⟨⟨trivial, trivial⟩, ⟨⟨⟨by rw [f0]; simpa [layT, zkB] using k0, by rw [f1]; simpa [layT, zkB] using k1⟩, by rw [f2]; simpa [layT, zkB] using k2⟩, by rw [f3]; simp⟩, by simp [zkB]⟩, ⟨⟨⟨⟨r0, r1⟩, r2⟩, r3⟩, r4⟩, q5⟩
  · exact ⟨⟨⟨trivial, trivial⟩, ⟨⟨⟨by rw [f0]; simpa [layT, zkB] using k0, by rw [f1]; simpa [layT, zkB] using k1⟩, by rw [f2]; simpa [layT, zkB] using k2⟩, by rw [f3]; simpa [layT, zkB] using k3⟩, by rw [f4]; simp⟩, ⟨⟨⟨⟨r0, r1⟩, r2⟩, r3⟩, r4⟩, r5⟩
theorem right_with : ∀ (ks : List Int) {P Q : PT}, rightT P = true → rightT Q = true → hasAll Q.1 ks = true → rightT (withT P Q ks) = true
  | [], _, _, hp, _, _ => hp
  | k :: r, P, Q, hp, hq, h => by
    unfold hasAll at h
    rw [List.all_cons, Bool.and_eq_true] at h
    exact right_with r (right_step hp hq h.1) hq h.2
theorem okM_z : okM zI = true := by decide
theorem okBox_z : okBox zI = true := by decide
theorem right_out {P : PT} {k : Int} (hp : rightT P = true) (hok : kOk k = true) : rightT (stepO P k) = true := by
  have hb := right_bound hp
  have hb2 := subK_bound (k := k) hb
  have f0 := sub_has hb hok (j := 0) (by omega)
  have f1 := sub_has hb hok (j := 1) (by omega)
  have f2 := sub_has hb hok (j := 2) (by omega)
  have f3 := sub_has hb hok (j := 3) (by omega)
  have f4 := sub_has hb hok (j := 4) (by omega)
  obtain ⟨h, M, m, B, p, a, c, l⟩ := P
  unfold rightT rightP kindsB kindB restB at hp
  simp only [Bool.and_eq_true] at hp
  obtain ⟨⟨_, ⟨⟨⟨k0, k1⟩, k2⟩, k3⟩, k4⟩, ⟨⟨⟨⟨r0, r1⟩, r2⟩, r3⟩, r4⟩, r5⟩ := hp
  have z12 := eq12_self zI
  have z6 := eq6_self zI
  have zM := okM_z
  have zB := okBox_z
  have hd := layT_has k (subK h k, M, m, B, p, a, c, l) zT
  unfold rightT rightP kindsB kindB restB stepO
  rw [hd]
  simp only [Bool.and_eq_true, decide_eq_true hb2.1, decide_eq_true hb2.2]
  clear hb2 hb hd
  rcases kOk_cases hok with rfl | rfl | rfl | rfl | rfl
  · exact ⟨⟨⟨trivial, trivial⟩, ⟨⟨⟨by simp [layT, zT, zkB, z12], by rw [f1]; simpa [layT, zkB] using k1⟩, by rw [f2]; simpa [layT, zkB] using k2⟩, by rw [f3]; simpa [layT, zkB] using k3⟩, by simp [zkB]⟩, ⟨⟨⟨⟨zM, r1⟩, r2⟩, r3⟩, r4⟩, r5⟩
  · exact ⟨⟨⟨trivial, trivial⟩, ⟨⟨⟨by rw [f0]; simpa [layT, zkB] using k0, by simp [layT, zT, zkB, z6]⟩, by rw [f2]; simpa [layT, zkB] using k2⟩, by rw [f3]; simpa [layT, zkB] using k3⟩, by simp [zkB]⟩, ⟨⟨⟨⟨r0, rfl⟩, zB⟩, r3⟩, r4⟩, r5⟩
  · exact ⟨⟨⟨trivial, trivial⟩, ⟨⟨⟨by rw [f0]; simpa [layT, zkB] using k0, by rw [f1]; simpa [layT, zkB] using k1⟩, by simp [layT, zT, zkB]⟩, by rw [f3]; simpa [layT, zkB] using k3⟩, by simp [zkB]⟩, ⟨⟨⟨⟨r0, r1⟩, r2⟩, rfl⟩, rfl⟩, r5⟩
  · exact ⟨⟨⟨trivial, trivial⟩, ⟨⟨⟨by rw [f0]; simpa [layT, zkB] using k0, by rw [f1]; simpa [layT, zkB] using k1⟩, by rw [f2]; simpa [layT, zkB] using k2⟩, by simp [layT, zT, zkB]⟩, by simp [zkB]⟩, ⟨⟨⟨⟨r0, r1⟩, r2⟩, r3⟩, r4⟩, rfl⟩
  · exact ⟨⟨⟨trivial, trivial⟩, ⟨⟨⟨by rw [f0]; simpa [layT, zkB] using k0, by rw [f1]; simpa [layT, zkB] using k1⟩, by rw [f2]; simpa [layT, zkB] using k2⟩, by rw [f3]; simpa [layT, zkB] using k3⟩, by simp [zkB]⟩, ⟨⟨⟨⟨r0, r1⟩, r2⟩, r3⟩, r4⟩, r5⟩
theorem right_wout : ∀ (ks : List Int) {P : PT}, rightT P = true → ksOk ks = true → rightT (woutT P ks) = true
  | [], _, hp, _ => hp
  | k :: r, P, hp, h => by
    unfold ksOk at h
    rw [List.all_cons, Bool.and_eq_true] at h
    exact right_wout r (right_out hp h.1) h.2

def r6 : PT := (0, zI, 0, zI, 1, 0, false, 0)
end Go.Proofs.YtkondkajpmafkaaGreat
