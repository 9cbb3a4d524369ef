/-
  VecPlaces answers true for every slice of vectors and every two vectors of 32 bits: sums and dots hang on no order, and a dot with a one at a place is the number there. No conditions.
-/
import Derived.Test.YtcmliidkkgkgcaaRows
import Derived.Test.YtcmliidkkgkgcaaVecO
import Derived.WalkKit
import Derived.ProofKit
import Derived.OpenShut
import Derived.ShutString
import Derived.ChangeOld
import Derived.Below
import Derived.Deep.AppendLies
namespace Go.Proofs.Ytcmliidkkgkgcaa.vecPlaces
open Go.ChangeShapes Go.WideShapes Go.ChangeAt Go.RowKit Go.Deep
set_option linter.unusedVariables false

theorem own : ownKnob Try.prog.godebug = none := by kernel_rfl
theorem laidOut : laidOutB Try.prog = true := by kernel_rfl

/-! the order of vectors, and of two -/
theorem rightV_rev (vs : List V3) : rightV vs.reverse = rightV vs := by unfold rightV; rw [List.all_reverse]
theorem rightB_rev (zs : List Int) : rightB zs.reverse = rightB zs := by unfold rightB; rw [List.all_reverse]
theorem addOk_rev (zs : List Int) : addOk zs.reverse = addOk zs := by unfold addOk; rw [List.length_reverse, rightB_rev]
theorem addV_rev (zs : List Int) : addV zs.reverse = addV zs := by unfold addV; rw [addOk_rev, List.sum_reverse]
theorem addE_rev (zs : List Int) : addE zs.reverse = addE zs := by unfold addE; rw [addOk_rev, List.sum_reverse]
theorem col0_rev (vs : List V3) : col0 vs.reverse = (col0 vs).reverse := List.map_reverse ..
theorem col1_rev (vs : List V3) : col1 vs.reverse = (col1 vs).reverse := List.map_reverse ..
theorem col2_rev (vs : List V3) : col2 vs.reverse = (col2 vs).reverse := List.map_reverse ..
theorem vaddE_rev (vs : List V3) : vaddE vs.reverse = vaddE vs := by
  unfold vaddE vaddOk
  rw [List.length_reverse, rightV_rev, col0_rev, col1_rev, col2_rev, addE_rev, addE_rev, addE_rev]
theorem mulV_comm (x y : Int) : mulV x y = mulV y x := by unfold mulV; rw [Bool.and_comm, Int.mul_comm]
theorem mulE_comm (x y : Int) : mulE x y = mulE y x := by unfold mulE; rw [Bool.and_comm, Int.mul_comm]
theorem ok6_comm (x0 x1 x2 y0 y1 y2 : Int) : ok6 x0 x1 x2 y0 y1 y2 = ok6 y0 y1 y2 x0 x1 x2 := by unfold ok6; rw [Bool.and_comm]
theorem prodE_comm (x0 x1 x2 y0 y1 y2 : Int) : prodE x0 x1 x2 y0 y1 y2 = prodE y0 y1 y2 x0 x1 x2 := by unfold prodE; rw [mulE_comm x0, mulE_comm x1, mulE_comm x2]
theorem dotV_comm (x0 x1 x2 y0 y1 y2 : Int) : dotV x0 x1 x2 y0 y1 y2 = dotV y0 y1 y2 x0 x1 x2 := by unfold dotV; rw [ok6_comm, prodE_comm, mulV_comm x0, mulV_comm x1, mulV_comm x2]
theorem dotE_comm (x0 x1 x2 y0 y1 y2 : Int) : dotE x0 x1 x2 y0 y1 y2 = dotE y0 y1 y2 x0 x1 x2 := by unfold dotE; rw [ok6_comm, prodE_comm, mulV_comm x0, mulV_comm x1, mulV_comm x2]

theorem mul_one {x : Int} (h : okB x = true) : mulV x 65536 = x ∧ mulE x 65536 = 0 := by
  obtain ⟨h1, h2⟩ := okB_iff.1 h
  have e : x * 65536 / 65536 = x := by omega
  unfold mulV mulE
  rw [show okB 65536 = true by decide, Bool.and_true, if_pos h, if_pos h, e]
  exact fit_yes h
theorem mul_zero {x : Int} (h : okB x = true) : mulV x 0 = 0 ∧ mulE x 0 = 0 := by
  unfold mulV mulE
  rw [show okB 0 = true by decide, Bool.and_true, if_pos h, if_pos h, Int.mul_zero]
  exact ⟨by decide, by decide⟩
theorem dot_one0 {x0 x1 x2 : Int} (h0 : okB x0 = true) (h1 : okB x1 = true) (h2 : okB x2 = true) : dotV x0 x1 x2 65536 0 0 = x0 ∧ dotE x0 x1 x2 65536 0 0 = 0 := by
  have ho : ok6 x0 x1 x2 65536 0 0 = true := by unfold ok6 ok3 rightB; simp [h0, h1, h2]; decide
  have hp : prodE x0 x1 x2 65536 0 0 = 0 := by unfold prodE first3; rw [(mul_one h0).2, (mul_zero h1).2, (mul_zero h2).2]; rfl
  have ha : addOk [x0, 0, 0] = true := by unfold addOk rightB; simp [h0]; decide
  rw [(dot_yes ho hp).1, (dot_yes ho hp).2, (mul_one h0).1, (mul_zero h1).1, (mul_zero h2).1, addV_yes ha, addE_yes ha]
  have e : [x0, 0, 0].sum = x0 := by simp
  rw [e]
  exact fit_yes h0
theorem dot_one1 {x0 x1 x2 : Int} (h0 : okB x0 = true) (h1 : okB x1 = true) (h2 : okB x2 = true) : dotV x0 x1 x2 0 65536 0 = x1 ∧ dotE x0 x1 x2 0 65536 0 = 0 := by
  have ho : ok6 x0 x1 x2 0 65536 0 = true := by unfold ok6 ok3 rightB; simp [h0, h1, h2]; decide
  have hp : prodE x0 x1 x2 0 65536 0 = 0 := by unfold prodE first3; rw [(mul_zero h0).2, (mul_one h1).2, (mul_zero h2).2]; rfl
  have ha : addOk [0, x1, 0] = true := by unfold addOk rightB; simp [h1]; decide
  rw [(dot_yes ho hp).1, (dot_yes ho hp).2, (mul_zero h0).1, (mul_one h1).1, (mul_zero h2).1, addV_yes ha, addE_yes ha]
  have e : [0, x1, 0].sum = x1 := by simp
  rw [e]
  exact fit_yes h1
theorem dot_one2 {x0 x1 x2 : Int} (h0 : okB x0 = true) (h1 : okB x1 = true) (h2 : okB x2 = true) : dotV x0 x1 x2 0 0 65536 = x2 ∧ dotE x0 x1 x2 0 0 65536 = 0 := by
  have ho : ok6 x0 x1 x2 0 0 65536 = true := by unfold ok6 ok3 rightB; simp [h0, h1, h2]; decide
  have hp : prodE x0 x1 x2 0 0 65536 = 0 := by unfold prodE first3; rw [(mul_zero h0).2, (mul_zero h1).2, (mul_one h2).2]; rfl
  have ha : addOk [0, 0, x2] = true := by unfold addOk rightB; simp [h2]; decide
  rw [(dot_yes ho hp).1, (dot_yes ho hp).2, (mul_zero h0).1, (mul_zero h1).1, (mul_one h2).1, addV_yes ha, addE_yes ha]
  have e : [0, 0, x2].sum = x2 := by simp
  rw [e]
  exact fit_yes h2

/-! vectors that the call itself appends -/
def flat (vs : List V3) : List Value := vs.flatMap fun v => [.int .i64 v.1, .int .i64 v.2.1, .int .i64 v.2.2]
theorem flat_len (vs : List V3) : (flat vs).length = vs.length * 3 := by
  induction vs with
  | nil => rfl
  | cons v r ih => unfold flat at ih ⊢; simp [ih]; omega
theorem flat_snoc (vs : List V3) (x y z : Int) : flat (vs ++ [(x, y, z)]) = flat vs ++ [.int .i64 x, .int .i64 y, .int .i64 z] := by unfold flat; simp
theorem flat_at : ∀ (vs : List V3) (i : Nat), i < vs.length → (flat vs)[i * 3]? = some (.int .i64 (vs.getD i zeroV).1) ∧ (flat vs)[i * 3 + 1]? = some (.int .i64 (vs.getD i zeroV).2.1) ∧ (flat vs)[i * 3 + 2]? = some (.int .i64 (vs.getD i zeroV).2.2)
  | [], i, h => by simp at h
  | v :: r, 0, _ => by simp [flat]
  | v :: r, i + 1, h => by
    have ih := flat_at r i (by simpa using h)
    have e : flat (v :: r) = [.int .i64 v.1, .int .i64 v.2.1, .int .i64 v.2.2] ++ flat r := by simp [flat]
    rw [e]
    have g : ∀ j, ([Value.int .i64 v.1, .int .i64 v.2.1, .int .i64 v.2.2] ++ flat r)[(i + 1) * 3 + j]? = (flat r)[i * 3 + j]? := fun j => by
      rw [List.getElem?_append_right (by simp; omega)]
      congr 1
      simp
      omega
    have g0 := g 0
    simp only [Nat.add_zero] at g0
    rw [g0, g 1, g 2]
    simpa using ih

def Owns3 (w : World) (base : Nat) (v : Value) (n : Nat) (vs : List V3) : Prop := w.ownsRow base 25 3 v n (flat vs)
theorem v_info : (Try.prog.info? 25).map (fun i => (i.zero, i.size, i.bytes)) = some (some (.agg #[.int .i64 0, .int .i64 0, .int .i64 0]), 3, 24) := by kernel_rfl
theorem Owns3.row {w : World} {base : Nat} {v : Value} {n : Nat} {vs : List V3} (h : Owns3 w base v n vs) : ∃ a cap, v = .slice a n cap ∧ VRow w a n vs := by
  have hl : vs.length = n := by have := h.1; rw [flat_len] at this; omega
  rcases h.2 with ⟨rfl, rfl⟩ | ⟨g, cap, cur, rfl, hb, hh, hnc, hm, hs, ht⟩
  · exact ⟨none, 0, rfl, hl, by omega, Or.inl rfl⟩
  · unfold maxLen at hm
    refine ⟨_, cap, rfl, hl, by omega, Or.inr ⟨g, 0, rfl, fun i hi => ?_⟩⟩
    obtain ⟨f0, f1, f2⟩ := flat_at vs i (by omega)
    rw [Nat.zero_add]
    exact ⟨(World.ownsRow.cellAt h _ (by omega)).trans f0, (World.ownsRow.cellAt h _ (by omega)).trans f1, (World.ownsRow.cellAt h _ (by omega)).trans f2⟩
theorem grown_below3 {w0 wr w' : World} {base B : Nat} {v : Value} {n : Nat} {vs : List V3} {o : Obj} (ho : Owns3 wr base v n vs) (hB : B ≤ base) (hb : Below B w0 wr) (hs : B ≤ wr.heap.size) (hg : (wr.alloc o).grownBy w' v.ownBlock) : Below B w0 w' :=
  (hb.alloc hs o).grown hg (by simp; omega) (fun k hk => by have := World.ownsRow.lt ho k hk; omega)
theorem grown_blk3 {wr w' : World} {base g : Nat} {v : Value} {n : Nat} {vs : List V3} {o : Obj} (ho : Owns3 wr base v n vs) (hB : g < base) (hlt : g < wr.heap.size) (hg : (wr.alloc o).grownBy w' v.ownBlock) : w'.heap[g]? = wr.heap[g]? := by
  rw [hg.block g (by simp; omega) (fun e => by have := World.ownsRow.lt ho g e.symm; omega)]
  exact Below.heap_alloc wr o g hlt
theorem news3 (w : World) (x y z : Value) (t : TypeId) : ∀ j u, [x, y, z][j]? = some u → (w.alloc (.cells #[x, y, z] t)).cell? ((⟨w.heap.size, 0, none⟩ : Addr).add j) = some u := by
  intro j u h
  rw [add_plain, Nat.zero_add, (Blk.new w t #[x, y, z]).cell j]
  simpa using h
theorem drop_rev {vs : List V3} {m : Nat} {v : V3} (h : vs[m]? = some v) : (vs.drop m).reverse = (vs.drop (m + 1)).reverse ++ [v] := by
  obtain ⟨hm, hv⟩ := List.getElem?_eq_some_iff.1 h
  rw [List.drop_eq_getElem_cons hm, List.reverse_cons, hv]

set_option maxHeartbeats 400000 in
set_option maxRecDepth 100000 in
theorem walk_many (a : Option Addr) (len cap : Nat) (x0 x1 x2 y0 y1 y2 : Int) (w : World) (h : 1200 < len) (hbig : len ≤ 9223372036854775807) :
    Calls Try.prog 5 #[.slice a len cap, .agg #[.int .i32 x0, .int .i32 x1, .int .i32 x2], .agg #[.int .i32 y0, .int .i32 y1, .int .i32 y2]] w fun e w' => e = .returned (.bool true) ∧ Below w.heap.size w w' := by
  go_enter Try.func5, Try.ntmps5
  go_wp2_with fail
  refine (valive_any _).mono ?_
  rintro e w1 ⟨rfl, b1⟩
  have B1 := Lib.hid (bthen (balloc (alloc_below _ _) _) b1)
  clear b1
  go_wp2
  go_ret
  exact ⟨rfl, B1.out⟩

set_option maxHeartbeats 4000000 in
set_option maxRecDepth 100000 in
theorem walk_few (a : Option Addr) (len cap : Nat) (vs : List V3) (x0 x1 x2 y0 y1 y2 s0 s1 s2 sE p pE : Int) (w : World) (h : len ≤ 1200) (row : VRow w a len vs)
    (bx : (-2147483648 ≤ x0 ∧ x0 ≤ 2147483647) ∧ (-2147483648 ≤ x1 ∧ x1 ≤ 2147483647) ∧ (-2147483648 ≤ x2 ∧ x2 ≤ 2147483647)) (bby : (-2147483648 ≤ y0 ∧ y0 ≤ 2147483647) ∧ (-2147483648 ≤ y1 ∧ y1 ≤ 2147483647) ∧ (-2147483648 ≤ y2 ∧ y2 ≤ 2147483647))
    (h1 : ∀ w', VRow w' a len vs → Calls Try.prog 7 #[.slice a len cap] w' fun e w'' => e = .returned (.tuple #[.agg #[.int .i64 s0, .int .i64 s1, .int .i64 s2], .int .i64 sE]) ∧ Below w'.heap.size w' w'')
    (h2 : ∀ w' b c, VRow w' b len vs.reverse → Calls Try.prog 7 #[.slice b len c] w' fun e w'' => e = .returned (.tuple #[.agg #[.int .i64 s0, .int .i64 s1, .int .i64 s2], .int .i64 sE]) ∧ Below w'.heap.size w' w'')
    (h3 : ∀ w', Calls Try.prog 13 #[.agg #[.int .i64 x0, .int .i64 x1, .int .i64 x2], .agg #[.int .i64 y0, .int .i64 y1, .int .i64 y2]] w' fun e w'' => e = .returned (.tuple #[.int .i64 p, .int .i64 pE]) ∧ Below w'.heap.size w' w'')
    (h4 : ∀ w', Calls Try.prog 13 #[.agg #[.int .i64 y0, .int .i64 y1, .int .i64 y2], .agg #[.int .i64 x0, .int .i64 x1, .int .i64 x2]] w' fun e w'' => e = .returned (.tuple #[.int .i64 p, .int .i64 pE]) ∧ Below w'.heap.size w' w'')
    (h5 : ∀ w', Calls Try.prog 13 #[.agg #[.int .i64 x0, .int .i64 x1, .int .i64 x2], .agg #[.int .i64 65536, .int .i64 0, .int .i64 0]] w' fun e w'' => e = .returned (.tuple #[.int .i64 x0, .int .i64 0]) ∧ Below w'.heap.size w' w'')
    (h6 : ∀ w', Calls Try.prog 13 #[.agg #[.int .i64 x0, .int .i64 x1, .int .i64 x2], .agg #[.int .i64 0, .int .i64 65536, .int .i64 0]] w' fun e w'' => e = .returned (.tuple #[.int .i64 x1, .int .i64 0]) ∧ Below w'.heap.size w' w'')
    (h7 : ∀ w', Calls Try.prog 13 #[.agg #[.int .i64 x0, .int .i64 x1, .int .i64 x2], .agg #[.int .i64 0, .int .i64 0, .int .i64 65536]] w' fun e w'' => e = .returned (.tuple #[.int .i64 x2, .int .i64 0]) ∧ Below w'.heap.size w' w'') :
    Calls Try.prog 5 #[.slice a len cap, .agg #[.int .i32 x0, .int .i32 x1, .int .i32 x2], .agg #[.int .i32 y0, .int .i32 y1, .int .i32 y2]] w fun e w' => e = .returned (.bool true) ∧ Below w.heap.size w w' := by
  have HRow := Lib.hid row
  have HL := Lib.hid row.1
  have Hh1 := Lib.hid h1
  have Hh2 := Lib.hid h2
  have Hh3 := Lib.hid h3
  have Hh4 := Lib.hid h4
  have Hh5 := Lib.hid h5
  have Hh6 := Lib.hid h6
  have Hh7 := Lib.hid h7
  clear row h1 h2 h3 h4 h5 h6 h7
  obtain ⟨⟨bx0, bx0'⟩, ⟨bx1, bx1'⟩, ⟨bx2, bx2'⟩⟩ := bx
  obtain ⟨⟨by0, by0'⟩, ⟨by1, by1'⟩, ⟨by2, by2'⟩⟩ := bby
  obtain ⟨i0, hi0, hz0, hz1, hz2⟩ := info_parts v_info
  have HI := Lib.hid (And.intro hi0 (And.intro hz0 (And.intro hz1 hz2)))
  clear hi0 hz0 hz1 hz2
  have heq := eqVec
  go_enter Try.func5, Try.ntmps5
  go_wp2
  go_loopw [7, 8] (fun v i wr => ∃ n : Int, -1 ≤ n ∧ n < (len : Int) ∧ i = .int .i64 n ∧ Owns3 wr (w.heap.size + 2) v (len - (n + 1).toNat) (vs.drop (n + 1).toNat).reverse ∧ Blk wr w.heap.size 45 #[.int .i32 x0, .int .i32 x1, .int .i32 x2] ∧ Blk wr (w.heap.size + 1) 45 #[.int .i32 y0, .int .i32 y1, .int .i32 y2] ∧ Below w.heap.size w wr ∧ w.heap.size + 2 ≤ wr.heap.size) (fun _ i _ => (intOf i + 1).toNat)
  case atStart =>
    refine ⟨(len : Int) - 1, by omega, by omega, rfl, ?_, (Blk.new w _ _).alloc _, blkAt (Blk.new (w.alloc _) _ _) (by simp), balloc (alloc_below _ _) _, by simp⟩
    rw [show ((len : Int) - 1 + 1).toNat = len by omega, Nat.sub_self, List.drop_of_length_le (by rw [HL.out]; exact Nat.le_refl _)]
    exact World.ownsRow_nil _ _ _ _
  case round =>
    obtain ⟨n, hn1, hn2, rfl, hown, hka, hkb, hb, hsz⟩ := hrel
    have HOwn := Lib.hid hown
    have KA := Lib.hid hka
    have KB := Lib.hid hkb
    have HB := Lib.hid hb
    clear hown hka hkb hb
    by_cases hn : 0 ≤ n
    · obtain ⟨m, rfl⟩ : ∃ m : Nat, n = (m : Int) := ⟨n.toNat, by omega⟩
      have hm : m < len := by omega
      obtain ⟨b, off, x, y, z, rfl, hv, c0, c1, c2⟩ := (vrow_keep HRow.out HB.out).at_ hm
      have HV := Lib.hid hv
      have HOwn1 : Hid (Owns3 wr (w.heap.size + 2) _ (len - (m + 1)) (vs.drop (m + 1)).reverse) := Lib.hid (by have := HOwn.out; rw [show ((m : Int) + 1).toNat = m + 1 by omega] at this; exact this)
      clear hv
      go_wp2_with (at_builtin; refine wpList_append_own _ rfl (.tmp 34) (.tmp 39) 22 rfl (w.heap.size + 2) 25 i0 (.agg #[.int .i64 0, .int .i64 0, .int .i64 0]) 3 24 Try.underlying22 HI.out.1 HI.out.2.1 HI.out.2.2.1 HI.out.2.2.2 rfl (by decide) _ _ _ rfl (HOwn1.out.alloc _) ⟨wr.heap.size, 0, none⟩ 1 1 [.int .i64 x, .int .i64 y, .int .i64 z] rfl rfl (news3 _ _ _ _ _) (by intro u hu; simp at hu; rcases hu with rfl | rfl | rfl <;> rfl) (by unfold maxLen; omega) (by omega) (by simp; omega) ?_)
      intro v' w2 hown' hgrow _
      have HOwn' := Lib.hid hown'
      have HG := Lib.hid hgrow
      clear hown' hgrow
      go_wp2
      go_roundw
      case rel =>
        refine ⟨(m : Int) - 1, by omega, by omega, rfl, ?_, (grown_blk3 HOwn1.out (by omega) KA.out.lt HG.out).trans KA.out, (grown_blk3 HOwn1.out (by omega) KB.out.lt HG.out).trans KB.out, grown_below3 HOwn1.out (by omega) HB.out (by omega) HG.out, ?_⟩
        · rw [show ((m : Int) - 1 + 1).toNat = m by omega, drop_rev HV.out]
          unfold Owns3
          rw [flat_snoc, show len - m = len - (m + 1) + 1 by omega]
          exact HOwn'.out
        · have := HG.out.size; simp at this; omega
      case measure => simp [intOf]
    · obtain rfl : n = -1 := by omega
      have HOwn1 : Hid (Owns3 wr (w.heap.size + 2) _ len vs.reverse) := Lib.hid HOwn.out
      obtain ⟨pa, pcap, rfl, hprow⟩ := HOwn1.out.row
      have HP := Lib.hid hprow
      clear hprow hsz
      go_wp2_with fail
      refine (Hh1.out _ (vrow_keep HRow.out HB.out)).mono ?_
      rintro e w1 ⟨rfl, b1⟩
      replace KA := Lib.hid (KA.out.keep b1)
      replace KB := Lib.hid (KB.out.keep b1)
      have HP0 := Lib.hid (vrow_keep HP.out b1)
      have B1 := Lib.hid (bthen HB.out b1)
      clear b1
      go_wp2_with fail
      refine (Hh2.out _ _ _ (vrow_keep HP0.out (alloc_below _ _))).mono ?_
      rintro e w2 ⟨rfl, b2⟩
      replace KA := Lib.hid ((KA.out.alloc _).keep b2)
      replace KB := Lib.hid ((KB.out.alloc _).keep b2)
      have KS := Lib.hid ((Blk.new w1 25 _).keep b2)
      have B2 := Lib.hid (bthen (balloc B1.out _) b2)
      clear b2
      obtain ⟨cA0, cA1, cA2, _, _, _⟩ := blk3 KA.out
      have zA := KA.out.lt
      obtain ⟨cB0, cB1, cB2, _, _, _⟩ := blk3 KB.out
      have zB := KB.out.lt
      go_wp2_with fail
      refine (Hh3.out _).mono ?_
      rintro e w3 ⟨rfl, b3⟩
      replace KA := Lib.hid ((((KA.out.alloc _).alloc _).alloc _).keep b3)
      replace KB := Lib.hid ((((KB.out.alloc _).alloc _).alloc _).keep b3)
      replace KS := Lib.hid ((((KS.out.alloc _).alloc _).alloc _).keep b3)
      have KT := Lib.hid ((((Blk.new w2 25 _).alloc _).alloc _).keep b3)
      have KX := Lib.hid (blkAt (((Blk.new (w2.alloc _) 25 _).alloc _).keep b3) (g' := w2.heap.size + 1) (by simp))
      have KY := Lib.hid (blkAt ((Blk.new ((w2.alloc _).alloc _) 25 _).keep b3) (g' := w2.heap.size + 1 + 1) (by simp))
      have B3 := Lib.hid (bthen (balloc (balloc (balloc B2.out _) _) _) b3)
      clear b3
      clear cA0 cA1 cA2 zA
      clear cB0 cB1 cB2 zB
      obtain ⟨cX0, cX1, cX2, _, _, _⟩ := blk3 KX.out
      have zX := KX.out.lt
      obtain ⟨cY0, cY1, cY2, _, _, _⟩ := blk3 KY.out
      have zY := KY.out.lt
      go_wp2_with fail
      refine (Hh4.out _).mono ?_
      rintro e w4 ⟨rfl, b4⟩
      replace KA := Lib.hid (KA.out.keep b4)
      replace KB := Lib.hid (KB.out.keep b4)
      replace KS := Lib.hid (KS.out.keep b4)
      replace KT := Lib.hid (KT.out.keep b4)
      replace KX := Lib.hid (KX.out.keep b4)
      replace KY := Lib.hid (KY.out.keep b4)
      have B4 := Lib.hid (bthen B3.out b4)
      clear b4
      clear cX0 cX1 cX2 zX
      clear cY0 cY1 cY2 zY
      obtain ⟨cS0, cS1, cS2, _, _, _⟩ := blk3 KS.out
      have zS := KS.out.lt
      obtain ⟨cT0, cT1, cT2, _, _, _⟩ := blk3 KT.out
      have zT := KT.out.lt
      obtain ⟨cX0, cX1, cX2, _, _, _⟩ := blk3 KX.out
      have zX := KX.out.lt
      go_wp2
      refine wp_loop_rounds 4 ?_
      rw [rounds_succ]
      go_wp2_with fail
      refine (Hh5.out _).mono ?_
      rintro e w5 ⟨rfl, b5⟩
      replace KA := Lib.hid ((KA.out.alloc _).keep b5)
      replace KB := Lib.hid ((KB.out.alloc _).keep b5)
      replace KS := Lib.hid ((KS.out.alloc _).keep b5)
      replace KT := Lib.hid ((KT.out.alloc _).keep b5)
      replace KX := Lib.hid ((KX.out.alloc _).keep b5)
      replace KY := Lib.hid ((KY.out.alloc _).keep b5)
      have KO1 := Lib.hid ((Blk.new w4 25 _).keep b5)
      have B5 := Lib.hid (bthen (balloc B4.out _) b5)
      clear b5
      clear KO1
      clear cS0 cS1 cS2 zS
      clear cT0 cT1 cT2 zT
      clear cX0 cX1 cX2 zX
      obtain ⟨cX0, cX1, cX2, _, _, _⟩ := blk3 KX.out
      have zX := KX.out.lt
      go_wp2
      rw [rounds_succ]
      go_wp2_with fail
      refine (Hh6.out _).mono ?_
      rintro e w6 ⟨rfl, b6⟩
      replace KA := Lib.hid ((KA.out.alloc _).keep b6)
      replace KB := Lib.hid ((KB.out.alloc _).keep b6)
      replace KS := Lib.hid ((KS.out.alloc _).keep b6)
      replace KT := Lib.hid ((KT.out.alloc _).keep b6)
      replace KX := Lib.hid ((KX.out.alloc _).keep b6)
      replace KY := Lib.hid ((KY.out.alloc _).keep b6)
      have KO2 := Lib.hid ((Blk.new w5 25 _).keep b6)
      have B6 := Lib.hid (bthen (balloc B5.out _) b6)
      clear b6
      clear KO2
      clear cX0 cX1 cX2 zX
      obtain ⟨cX0, cX1, cX2, _, _, _⟩ := blk3 KX.out
      have zX := KX.out.lt
      go_wp2
      rw [rounds_succ]
      go_wp2_with fail
      refine (Hh7.out _).mono ?_
      rintro e w7 ⟨rfl, b7⟩
      replace KA := Lib.hid ((KA.out.alloc _).keep b7)
      replace KB := Lib.hid ((KB.out.alloc _).keep b7)
      replace KS := Lib.hid ((KS.out.alloc _).keep b7)
      replace KT := Lib.hid ((KT.out.alloc _).keep b7)
      replace KX := Lib.hid ((KX.out.alloc _).keep b7)
      replace KY := Lib.hid ((KY.out.alloc _).keep b7)
      have KO3 := Lib.hid ((Blk.new w6 25 _).keep b7)
      have B7 := Lib.hid (bthen (balloc B6.out _) b7)
      clear b7
      clear KO3
      clear cX0 cX1 cX2 zX
      obtain ⟨cX0, cX1, cX2, _, _, _⟩ := blk3 KX.out
      have zX := KX.out.lt
      go_wp2
      rw [rounds_succ]
      go_wp2_with fail
      refine (valive_any _).mono ?_
      rintro e w8 ⟨rfl, b8⟩
      replace KA := Lib.hid (KA.out.keep b8)
      replace KB := Lib.hid (KB.out.keep b8)
      replace KS := Lib.hid (KS.out.keep b8)
      replace KT := Lib.hid (KT.out.keep b8)
      replace KX := Lib.hid (KX.out.keep b8)
      replace KY := Lib.hid (KY.out.keep b8)
      have B8 := Lib.hid (bthen B7.out b8)
      clear b8
      go_wp2
      go_ret
      exact ⟨rfl, B8.out⟩

theorem walk (a : Option Addr) (len cap : Nat) (vs : List V3) (x0 x1 x2 y0 y1 y2 : Int) (w : World) (row : VRow w a len vs)
    (bx : (-2147483648 ≤ x0 ∧ x0 ≤ 2147483647) ∧ (-2147483648 ≤ x1 ∧ x1 ≤ 2147483647) ∧ (-2147483648 ≤ x2 ∧ x2 ≤ 2147483647)) (bby : (-2147483648 ≤ y0 ∧ y0 ≤ 2147483647) ∧ (-2147483648 ≤ y1 ∧ y1 ≤ 2147483647) ∧ (-2147483648 ≤ y2 ∧ y2 ≤ 2147483647)) :
    Calls Try.prog 5 #[.slice a len cap, .agg #[.int .i32 x0, .int .i32 x1, .int .i32 x2], .agg #[.int .i32 y0, .int .i32 y1, .int .i32 y2]] w fun e w' => e = .returned (.bool true) ∧ Below w.heap.size w w' := by
  by_cases h : 1200 < len
  · exact walk_many a len cap x0 x1 x2 y0 y1 y2 w h row.2.1
  · have o0 := okB_iff.2 bx.1
    have o1 := okB_iff.2 bx.2.1
    have o2 := okB_iff.2 bx.2.2
    refine walk_few a len cap vs x0 x1 x2 y0 y1 y2 _ _ _ _ _ _ w (by omega) row bx bby (fun w' hr => vadd_any a len cap vs w' hr) (fun w' b c hr => ?_) (fun w' => vdot_any _ _ _ _ _ _ w') (fun w' => ?_) (fun w' => ?_) (fun w' => ?_) (fun w' => ?_)
    · have hx := vadd_any b len c vs.reverse w' hr
      rw [vaddE_rev, col0_rev, col1_rev, col2_rev, addV_rev, addV_rev, addV_rev] at hx
      exact hx
    · have hx := vdot_any y0 y1 y2 x0 x1 x2 w'
      rw [dotV_comm, dotE_comm] at hx
      exact hx
    · have hx := vdot_any x0 x1 x2 65536 0 0 w'
      rw [(dot_one0 o0 o1 o2).1, (dot_one0 o0 o1 o2).2] at hx
      exact hx
    · have hx := vdot_any x0 x1 x2 0 65536 0 w'
      rw [(dot_one1 o0 o1 o2).1, (dot_one1 o0 o1 o2).2] at hx
      exact hx
    · have hx := vdot_any x0 x1 x2 0 0 65536 w'
      rw [(dot_one2 o0 o1 o2).1, (dot_one2 o0 o1 o2).2] at hx
      exact hx

theorem open_i32 {H : Type} {enc : TypeId × Value → H} {w : World} {base : Nat} {spare : Nat → Bool} {held : Bool} {r : Reach} {b0 : Nat} {v : Value} {d : DataW H} {p : List MemPlace} (hv : Value.okWide Try.prog w r b0 45 v) (h : DataW.Trod enc Try.prog w base spare held 45 v d p) :
    ∃ x0 x1 x2 : Int, v = .agg #[.int .i32 x0, .int .i32 x1, .int .i32 x2] ∧ (-2147483648 ≤ x0 ∧ x0 ≤ 2147483647) ∧ (-2147483648 ≤ x1 ∧ x1 ≤ 2147483647) ∧ (-2147483648 ≤ x2 ∧ x2 ≤ 2147483647) := by
  obtain ⟨cs, rfl, hs⟩ := okWide_arr Try.underlying45 hv
  obtain ⟨fuel, hf⟩ := h
  have hC : Try.prog.cellsOf 45 = 3 := by kernel_rfl
  rw [hC] at hs
  obtain ⟨l⟩ := cs
  match l, hs with
  | [c0, c1, c2], _ =>
    obtain ⟨y0, y1, y2, n, _, h0, h1, h2⟩ := trod_array3 Try.underlying45 (by kernel_rfl) (show DataW.trod _ _ _ _ _ _ _ _ [c0, c1, c2] = _ by simpa [Value.cells] using hf)
    obtain ⟨a, ea, _, wa⟩ := DataW.trod_int Try.underlying21 h0
    obtain ⟨b, eb, _, wb⟩ := DataW.trod_int Try.underlying21 h1
    obtain ⟨c, ec, _, wc⟩ := DataW.trod_int Try.underlying21 h2
    simp at ea eb ec
    subst ea eb ec
    exact ⟨a, b, c, rfl, bounds_i32 wa, bounds_i32 wb, bounds_i32 wc⟩

set_option maxRecDepth 100000 in
theorem lifted (os : Os) (started : os.Started) (H : Type) (enc : TypeId × Value → H) :
    ReturnsInHanded {} Try.checked os 5 .any (Rows.vecPlacesSpec.pre6 enc Try.prog Try.f5 Rows.vecPlacesRow.domain false) (Rows.vecPlacesSpec.post enc Try.prog Try.f5 false true false false) := by
  refine returnsInHanded_of_change (C := Try.checked) own started (by kernel_rfl) Try.func5
    (ChangeSpec.witness6 (enc := enc) (C := Try.checked) false ⟨#[], #[.slice none 0 0, .agg #[.int .i32 0, .int .i32 0, .int .i32 0], .agg #[.int .i32 0, .int .i32 0, .int .i32 0]], []⟩ 8 (by kernel_rfl) (by kernel_rfl) (by kernel_rfl) (by kernel_rfl)) ?_
  intro W base args ds gs before hval0 hW hcnd _
  have hval : ∀ (j : Nat) t v, Try.f5.params[j]? = some t → args[j]? = some v → Value.okWide Try.prog W .any base t v := hval0
  have hW' := hW
  obtain ⟨p, q, hA0, hV, rfl, hfz, hnd⟩ := hW
  have hA : DataW.TrodAll enc Try.prog W 0 (fun _ => true) true Try.f5.params.toList args.toList ds p := hA0
  rw [Try.params5] at hA hval
  obtain ⟨v0, vs0, d0, ds0, p0, q0, hargs, rfl, rfl, h0, r0⟩ := trodAll_cons hA
  obtain ⟨v1, vs1, d1, ds1, p1, q1, rfl, rfl, rfl, h1, r1⟩ := trodAll_cons r0
  obtain ⟨v2, vs2, d2, ds2, p2, q2, rfl, rfl, rfl, h2, r2⟩ := trodAll_cons r1
  obtain ⟨rfl, rfl, rfl⟩ := trodAll_nil r2
  obtain rfl : args = #[v0, v1, v2] := by cases args; simp_all
  obtain ⟨rfl, rfl⟩ := trodVars_none hV
  obtain ⟨a0, len0, cap0, rfl⟩ := okWide_slice Try.underlying22 (hval 0 22 v0 rfl rfl)
  have k0 := h0
  have lt0 : ∀ x ∈ p0, x.block < W.heap.size := by obtain ⟨m, hm⟩ := k0; exact DataW.trod_lt m _ _ _ hm
  obtain ⟨vs, row, hcap, hbig⟩ : ∃ vs, VRow W a0 len0 vs ∧ len0 ≤ cap0 ∧ cap0 ≤ 9223372036854775807 := by
    obtain ⟨fuel, hf⟩ := h0
    exact open_vecs (by simpa [Value.cells] using hf)
  have k1 := h1
  have lt1 : ∀ x ∈ p1, x.block < W.heap.size := by obtain ⟨m, hm⟩ := k1; exact DataW.trod_lt m _ _ _ hm
  obtain ⟨x0, x1, x2, rfl, bx⟩ := open_i32 (hval 1 45 v1 rfl rfl) h1
  have k2 := h2
  have lt2 : ∀ x ∈ p2, x.block < W.heap.size := by obtain ⟨m, hm⟩ := k2; exact DataW.trod_lt m _ _ _ hm
  obtain ⟨y0, y1, y2, rfl, bby⟩ := open_i32 (hval 2 45 v2 rfl rfl) h2
  clear hA0 hval0
  refine (walk a0 len0 cap0 vs x0 x1 x2 y0 y1 y2 W row bx bby).mono fun e W' ⟨he, bel⟩ => ?_
  subst he
  exact ⟨_, rfl, _, _, _, [], _, [], hW', trodAll_mk1 (shut_bool Try.underlying4 _), (trodAll_cons_mk (Below.trod laidOut (by kernel_rfl) (of_decide_eq_true (by kernel_rfl)) k0 bel lt0) (trodAll_cons_mk (Below.trod laidOut (by kernel_rfl) (of_decide_eq_true (by kernel_rfl)) k1 bel lt1) (trodAll_cons_mk (Below.trod laidOut (by kernel_rfl) (of_decide_eq_true (by kernel_rfl)) k2 bel lt2) trodAll_mk0))), rfl, bel.frame _, fun h => by cases h⟩

theorem over : Rows.vecPlacesRow.holds Try.pinned (OpenSpec.ofChange Rows.vecPlacesSpec) :=
  OpenClaim.holds_of_wide 5 Try.f5 rfl rfl rfl rfl rfl rfl rfl ⟨rfl, rfl, rfl, rfl, rfl⟩ rfl rfl rfl rfl rfl (by kernel_rfl) Try.func5 (by kernel_rfl)
    (of_decide_eq_true (by kernel_rfl)) (by unfold Func.isWrapper; first | (rw [if_pos (by decide +kernel)]; kernel_rfl) | (rw [if_neg (by decide +kernel)]; exact ⟨rfl, rfl⟩))
    (fun os started H enc _ => lifted os started H enc)

end Go.Proofs.Ytcmliidkkgkgcaa.vecPlaces
namespace Go.Proofs.Ytcmliidkkgkgcaa
theorem vecPlaces_holds : Rows.VecPlacesSaid := vecPlaces.over
#print axioms vecPlaces_holds
end Go.Proofs.Ytcmliidkkgkgcaa
