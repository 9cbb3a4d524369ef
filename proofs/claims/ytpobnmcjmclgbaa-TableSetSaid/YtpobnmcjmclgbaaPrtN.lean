/-
  What the program's valued, Right, With, Without and Drawn of layer 6 answer.
-/
import Derived.Test.YtpobnmcjmclgbaaPrtM
namespace Go.Proofs.Ytpobnmcjmclgbaa
open Go.RowKit

/-- a load of many cells that is guarded, and wanted -/
theorem wpList_load_g {ops : Array Oper} {rest : List Oper} {op : Oper} {a : Act} {w : World} {Q : Exit → Act → World → Prop} (hw : Region.wanted op (yielded ops a.tmps) = true) (ty : TypeId) (x : Operand) (ho : op.op = .load ty x)
    (b o : Nat) (hx : a.eval x = .pointer (some ⟨b, o, none⟩)) (cs : List Value) (d : TypeDesc) (hc : w.rangeAt b o cs)
    (hu : Try.prog.underlying ty = some d) (hd : d.isRow = true) (hi : (Try.prog.info? ty).map (·.size) = some cs.length)
    (h : wpList Try.prog ops Q rest (a.put op.dst (.agg cs.toArray)) w) : wpList Try.prog ops Q (op :: rest) a w := by
  rw [wpList, if_pos hw]
  exact Or.inl (wp_load_mid ty x ho b o hx cs d hc hu hd hi h)

set_option maxHeartbeats 4000000 in
set_option maxRecDepth 100000 in
theorem val_any (h : Int) (M : Nat → Int) (m : Int) (B : Nat → Int) (p a : Int) (c : Bool) (l : Int) (w : World) :
    Calls Try.prog 23 #[.agg (PL h M m B p a c l).toArray] w fun e w' => e = .returned (.bool (restB M m B p a l)) ∧ Below w.heap.size w w' := by
  unfold restB
  obtain ⟨b1, h1⟩ : ∃ b, okM M = b := ⟨_, rfl⟩
  obtain ⟨b2, h2⟩ : ∃ b, inB m 255 = b := ⟨_, rfl⟩
  obtain ⟨b3, h3⟩ : ∃ b, okBox B = b := ⟨_, rfl⟩
  obtain ⟨b4, h4⟩ : ∃ b, inB p 63 = b := ⟨_, rfl⟩
  obtain ⟨b5, h5⟩ : ∃ b, inB a 255 = b := ⟨_, rfl⟩
  obtain ⟨b6, h6⟩ : ∃ b, inB l 255 = b := ⟨_, rfl⟩
  have H1 := Lib.hid h1
  have H2 := Lib.hid h2
  have H3 := Lib.hid h3
  have H4 := Lib.hid h4
  have H5 := Lib.hid h5
  have H6 := Lib.hid h6
  rw [h1, h2, h3, h4, h5, h6]
  clear h1 h2 h3 h4 h5 h6
  have HR1 : Hid (∀ u g, Blk u g 39 (PL h M m B p a c l).toArray → u.rangeAt g 1 [.int .i64 (M 0), .int .i64 (M 1), .int .i64 (M 2), .int .i64 (M 3), .int .i64 (M 4), .int .i64 (M 5), .int .i64 (M 6), .int .i64 (M 7), .int .i64 (M 8), .int .i64 (M 9), .int .i64 (M 10), .int .i64 (M 11)]) := Lib.hid (fun u g k => blk_range k 1 12)
  have HR2 : Hid (∀ u g, Blk u g 39 (PL h M m B p a c l).toArray → u.rangeAt g 14 [.int .i64 (B 0), .int .i64 (B 1), .int .i64 (B 2), .int .i64 (B 3), .int .i64 (B 4), .int .i64 (B 5)]) := Lib.hid (fun u g k => blk_range k 14 6)
  have HC : Hid (∀ u g, Blk u g 39 (PL h M m B p a c l).toArray → u.cell? ⟨g, 13, none⟩ = some (.int .i64 m) ∧ u.cell? ⟨g, 20, none⟩ = some (.int .i64 p) ∧ u.cell? ⟨g, 21, none⟩ = some (.int .i64 a) ∧ u.cell? ⟨g, 23, none⟩ = some (.int .i64 l)) := Lib.hid (fun u g k => ⟨k.cell 13, k.cell 20, k.cell 21, k.cell 23⟩)
  have HS1 : Hid ((Try.prog.info? 33).map (·.size) = some ([.int .i64 (M 0), .int .i64 (M 1), .int .i64 (M 2), .int .i64 (M 3), .int .i64 (M 4), .int .i64 (M 5), .int .i64 (M 6), .int .i64 (M 7), .int .i64 (M 8), .int .i64 (M 9), .int .i64 (M 10), .int .i64 (M 11)] : List Value).length) := Lib.hid (by kernel_rfl)
  have HS2 : Hid ((Try.prog.info? 37).map (·.size) = some ([.int .i64 (B 0), .int .i64 (B 1), .int .i64 (B 2), .int .i64 (B 3), .int .i64 (B 4), .int .i64 (B 5)] : List Value).length) := Lib.hid (by kernel_rfl)
  obtain ⟨X, hX⟩ : ∃ X, X = PL h M m B p a c l := ⟨_, rfl⟩
  rw [← hX] at HR1 HR2 HC
  rw [← hX]
  clear hX
  have KP := Lib.hid (Blk.new w 39 X.toArray)
  go_enter Try.func23, Try.ntmps23
  go_wp2_with (refine wpList_load_mid rfl 33 (.tmp 3) rfl w.heap.size 1 rfl [.int .i64 (M 0), .int .i64 (M 1), .int .i64 (M 2), .int .i64 (M 3), .int .i64 (M 4), .int .i64 (M 5), .int .i64 (M 6), .int .i64 (M 7), .int .i64 (M 8), .int .i64 (M 9), .int .i64 (M 10), .int .i64 (M 11)] _ (HR1.out _ _ KP.out) Try.underlying33 rfl HS1.out ?_)
  refine (mright1 H1.out (blkAt (Blk.new _ _ _) (by simp))).mono ?_
  rintro e w1 ⟨rfl, k1⟩
  replace KP := Lib.hid ((KP.out.alloc _).keep k1)
  have HB := Lib.hid (bthen (balloc (alloc_below _ _) _) k1)
  clear k1 H1
  cases b1 with
  | false =>
    go_wp2
    go_ret
    exact ⟨rfl, HB.out⟩
  | true =>
    obtain ⟨c13, c20, c21, c23⟩ := HC.out _ _ KP.out
    have z := KP.out.lt
    go_wp2_with fail
    refine (pin_bb H2.out _).mono ?_
    rintro e w2 ⟨rfl, rfl⟩
    clear H2
    cases b2 with
    | false =>
      go_wp2
      go_ret
      exact ⟨rfl, HB.out⟩
    | true =>
      go_wp2_with (refine wpList_load_g (by rfl) 37 (.tmp 13) rfl w.heap.size 14 rfl [.int .i64 (B 0), .int .i64 (B 1), .int .i64 (B 2), .int .i64 (B 3), .int .i64 (B 4), .int .i64 (B 5)] _ (HR2.out _ _ KP.out) Try.underlying37 rfl HS2.out ?_)
      refine (shright1 H3.out (Blk.new _ _ _)).mono ?_
      rintro e w3 ⟨rfl, k3⟩
      replace KP := Lib.hid ((KP.out.alloc _).keep k3)
      replace HB := Lib.hid (bthen (balloc HB.out _) k3)
      clear k3 c13 c20 c21 c23 z H3
      obtain ⟨c13, c20, c21, c23⟩ := HC.out _ _ KP.out
      have z := KP.out.lt
      cases b3 with
      | false =>
        go_wp2
        go_ret
        exact ⟨rfl, HB.out⟩
      | true =>
        go_wp2_with fail
        refine (pin_bb H4.out _).mono ?_
        rintro e w4 ⟨rfl, rfl⟩
        clear H4
        cases b4 with
        | false =>
          go_wp2
          go_ret
          exact ⟨rfl, HB.out⟩
        | true =>
          go_wp2_with fail
          refine (pin_bb H5.out _).mono ?_
          rintro e w5 ⟨rfl, rfl⟩
          clear H5
          cases b5 with
          | false =>
            go_wp2
            go_ret
            exact ⟨rfl, HB.out⟩
          | true =>
            go_wp2_with fail
            refine (pin_bb H6.out _).mono ?_
            rintro e w6 ⟨rfl, rfl⟩
            clear H6
            go_wp2
            go_ret
            exact ⟨by simp, HB.out⟩
theorem valT {P : PT} {b : Bool} (h : valB P = b) (w : World) : Calls Try.prog 23 #[.agg (pl P).toArray] w fun e w' => e = .returned (.bool b) ∧ Below w.heap.size w w' := by
  subst h
  exact val_any _ _ _ _ _ _ _ _ w
theorem bareT {P : PT} {b : Bool} (h : bareB P = b) (w : World) : Calls Try.prog 24 #[.agg (pl P).toArray] w fun e w' => e = .returned (.bool b) ∧ Below w.heap.size w w' := by
  subst h
  exact bare_any P w

set_option maxHeartbeats 2000000 in
set_option maxRecDepth 100000 in
theorem pright_any (P : PT) (w : World) :
    Calls Try.prog 11 #[.agg (pl P).toArray] w fun e w' => e = .returned (.bool (rightT P)) ∧ Below w.heap.size w w' := by
  rw [right_split]
  obtain ⟨b1, h1⟩ : ∃ b, valB P = b := ⟨_, rfl⟩
  obtain ⟨b2, h2⟩ : ∃ b, bareB P = b := ⟨_, rfl⟩
  have H1 := Lib.hid h1
  have H2 := Lib.hid h2
  rw [h1, h2]
  clear h1 h2
  have KP := Lib.hid (Blk.new w 39 (pl P).toArray)
  have HSz := Lib.hid (pl_size P)
  go_enter Try.func11, Try.ntmps11
  go_wp2_with (refine wpList_load_mid rfl 39 (.tmp 1) rfl w.heap.size 0 rfl (pl P) _ (blk_whole KP.out) Try.underlying39 rfl HSz.out ?_)
  refine (valT H1.out _).mono ?_
  rintro e w1 ⟨rfl, k1⟩
  replace KP := Lib.hid (KP.out.keep k1)
  have HB := Lib.hid (bthen (alloc_below _ _) k1)
  clear k1 H1
  cases b1 with
  | false =>
    go_wp2
    go_ret
    exact ⟨rfl, HB.out⟩
  | true =>
    go_wp2_with (refine wpList_load_g (by rfl) 39 (.tmp 1) rfl w.heap.size 0 rfl (pl P) _ (blk_whole KP.out) Try.underlying39 rfl HSz.out ?_)
    refine (bareT H2.out _).mono ?_
    rintro e w2 ⟨rfl, k2⟩
    replace HB := Lib.hid (bthen HB.out k2)
    clear k2 H2
    go_wp2
    go_ret
    exact ⟨by simp, HB.out⟩
theorem prightT {P : PT} {b : Bool} (h : rightT P = b) (w : World) : Calls Try.prog 11 #[.agg (pl P).toArray] w fun e w' => e = .returned (.bool b) ∧ Below w.heap.size w w' := by
  subst h
  exact pright_any P w

end Go.Proofs.Ytpobnmcjmclgbaa
