/-
  What the reference's sum of layer 3 answers.
-/
import Derived.Test.YtjdoneacbnalaaaAffE
namespace Go.Proofs.Ytjdoneacbnalaaa
open Go.RowKit

theorem rightB_rot (l a b c : Int) : rightB [l, a, b, c] = rightB [a, b, c, l] := by
  unfold rightB
  simp only [List.all_cons, List.all_nil, Bool.and_true]
  cases okB l <;> cases okB a <;> cases okB b <;> cases okB c <;> rfl
theorem addOk_rot (l a b c : Int) : addOk [l, a, b, c] = addOk [a, b, c, l] := by unfold addOk; rw [rightB_rot]; rfl
theorem sum_rot (l a b c : Int) : [l, a, b, c].sum = [a, b, c, l].sum := by simp; omega
theorem addV_rot (l a b c : Int) : addV [l, a, b, c] = addV [a, b, c, l] := by unfold addV; rw [addOk_rot, sum_rot]
theorem addE_rot (l a b c : Int) : addE [l, a, b, c] = addE [a, b, c, l] := by unfold addE; rw [addOk_rot, sum_rot]

/-- the list that the reference makes -/
def alR (M : Nat → Int) (r : Nat) (V : Nat → Int) (l : Int) : List Int := [l, alP M r V 0, alP M r V 1, alP M r V 2]
theorem alR_take (M : Nat → Int) (r : Nat) (V : Nat → Int) (l : Int) {k : Nat} (hk : k < 3) : (alR M r V l).take (k + 1 + 1) = (alR M r V l).take (k + 1) ++ [alP M r V k] := by
  obtain rfl | rfl | rfl : k = 0 ∨ k = 1 ∨ k = 2 := by omega
  · rfl
  · rfl
  · rfl
theorem owns_one (w : World) (base : Nat) (x : Int) (hb : base ≤ w.heap.size) (N : Nat) (hN : w.heap.size = N) : Owns (w.alloc (.cells #[.int .i64 x] 23)) base (.slice (some ⟨N, 0, none⟩) 1 1) 1 [x] := by
  subst hN
  exact World.ownsRow_lit w #[.int .i64 x] 1 hb (by unfold maxLen; omega) rfl

set_option maxHeartbeats 1000000 in
theorem rsum_any (M : Nat → Int) (r : Nat) (V : Nat → Int) (l : Int) (w : World) (hr : r < 3) :
    Calls Try.prog 29 #[.agg #[.int .i64 (M 0), .int .i64 (M 1), .int .i64 (M 2), .int .i64 (M 3), .int .i64 (M 4), .int .i64 (M 5), .int .i64 (M 6), .int .i64 (M 7), .int .i64 (M 8), .int .i64 (M 9), .int .i64 (M 10), .int .i64 (M 11)], .int .i64 r, .agg #[.int .i64 (V 0), .int .i64 (V 1), .int .i64 (V 2)], .int .i64 l] w fun e w' => e = .returned (.tuple #[.int .i64 (alV M r V l), .int .i64 (alE M r V l)]) ∧ Below w.heap.size w w' := by
  obtain ⟨i0, hi0, hz0, hz1, hz2⟩ := info_parts f_info
  have HI := Lib.hid (And.intro hi0 (And.intro hz0 (And.intro hz1 hz2)))
  clear hi0 hz0 hz1 hz2
  go_enter Try.func29, Try.ntmps29
  go_wp2
  go_loopw [10, 11] (fun v i wr => ∃ k : Nat, k ≤ 3 ∧ i = .int .i64 k ∧ (∀ j, j < k → alPE M r V j = 0) ∧ Owns wr (w.heap.size + 2) v (k + 1) ((alR M r V l).take (k + 1)) ∧ BM wr w.heap.size M ∧ Blk wr (w.heap.size + 1) 26 #[.int .i64 (V 0), .int .i64 (V 1), .int .i64 (V 2)] ∧ Below w.heap.size w wr ∧ w.heap.size + 2 ≤ wr.heap.size) (fun _ i _ => 3 - (intOf i).toNat)
  case atStart => exact ⟨0, by omega, rfl, fun j hj => by omega, owns_one _ _ l (by simp) _ (by simp), ((Blk.new w _ _).alloc _).alloc _, (blkAt ((Blk.new (w.alloc _) _ _).alloc _) (by simp)), balloc (balloc (alloc_below _ _) _) _, by simp⟩
  case round =>
    obtain ⟨k, hk, rfl, hz, hown, hbm, hbv, hb, hsz⟩ := hrel
    have HZ := Lib.hid hz
    have HOwn := Lib.hid hown
    have HM := Lib.hid hbm
    have HV := Lib.hid hbv
    have HB := Lib.hid hb
    clear hz hown hbm hbv hb
    by_cases hlt : k < 3
    · obtain ⟨n, hn⟩ : ∃ n, n = 4 * r + k := ⟨_, rfl⟩
      have HN := Lib.hid hn
      have hn12 : n < 12 := by omega
      have hw1 : IntKind.i64.wrap (4 * (r : Int)) = 4 * (r : Int) := IntWalk.i64_in _ (by omega)
      have hw2 : IntKind.i64.wrap (4 * (r : Int) + (k : Int)) = (n : Int) := by rw [show 4 * (r : Int) + (k : Int) = (n : Int) by omega]; exact IntWalk.i64_in _ (by omega)
      clear hn
      have cx := Blk.at12 HM.out hn12
      have cy := Blk.at3 HV.out hlt
      obtain ⟨x, hx⟩ : ∃ x, x = M n := ⟨_, rfl⟩
      obtain ⟨y, hy⟩ : ∃ y, y = V k := ⟨_, rfl⟩
      have HD : Hid (alP M r V k = mulV x y ∧ alPE M r V k = mulE x y) := Lib.hid (by unfold alP alPE; rw [hx, hy, HN.out]; exact ⟨rfl, rfl⟩)
      rw [← hx] at cx
      rw [← hy] at cy
      clear hx hy
      have hk0 : (0 : Int) ≤ (k : Int) := by omega
      have hk3 : (k : Int) < 3 := by omega
      have hn0 : (0 : Int) ≤ (n : Int) := by omega
      have hn1 : (n : Int) < 12 := by omega
      go_wp2
      go_region_held3 (fun w' => w'.cell? ⟨w.heap.size, n, none⟩ = some (.int .i64 x) ∧ w'.cell? ⟨w.heap.size + 1, k, none⟩ = some (.int .i64 y)) (first | exact ⟨cell_keepD b2 cx, cell_keepD b2 cy⟩ | go_keep)
        (first | (go_at_call 35; refine (rmul_any _ _ _).mono ?_; rintro e w2 ⟨rfl, b2⟩))
      have B2 := Lib.hid (bdrew b2)
      clear b2 cx cy
      have HOwn2 : Hid (Owns w2 (w.heap.size + 2) _ (k + 1) _) := Lib.hid (own_keep HOwn.out B2.out)
      have HM2 := Lib.hid (Blk.keep HM.out B2.out)
      have HV2 := Lib.hid (Blk.keep HV.out B2.out)
      have HB2 := Lib.hid (bthen HB.out B2.out)
      have hsz2 : w.heap.size + 2 ≤ w2.heap.size := Nat.le_trans hsz B2.out.size
      by_cases he : mulE x y = 0
      · have HEk := Lib.hid he
        have he' : (mulE x y != 0) = false := by rw [he]; rfl
        clear he
        go_wp2_with (at_builtin; refine wpList_append_own _ rfl (.tmp 36) (.tmp 38) 47 rfl (w.heap.size + 2) 23 i0 (.int .i64 0) 1 8 Try.underlying47 HI.out.1 HI.out.2.1 HI.out.2.2.1 HI.out.2.2.2 rfl (by decide) _ _ _ rfl (HOwn2.out.alloc _) ⟨w2.heap.size, 0, none⟩ 1 1 [.int .i64 (mulV x y)] rfl rfl (cell_one_new _ _ _) (by intro u hu; simp at hu; subst hu; rfl) (by unfold maxLen; omega) (by omega) (by simp; omega) ?_)
        intro v' w3 hown' hgrow _
        have HOwn' := Lib.hid hown'
        have HG := Lib.hid hgrow
        clear hown' hgrow
        go_wp2
        go_roundw
        case rel =>
          have hb3 := grown_below HOwn2.out (by omega) HB2.out HB2.out.size HG.out
          refine ⟨k + 1, by omega, by go_num, err_step HZ.out (by rw [HD.out.2]; exact HEk.out), ?_, HM2.out.same (grown_blk HOwn2.out (by omega) HM2.out.lt HG.out), HV2.out.same (grown_blk HOwn2.out (by omega) HV2.out.lt HG.out), hb3, ?_⟩
          · unfold Owns
            rw [alR_take _ _ _ _ hlt, List.map_append, HD.out.1]
            first | exact HOwn'.out | (rw [List.map_take]; exact HOwn'.out)
          · have := HG.out.size
            simp at this
            omega
        case measure => simp [intOf]; omega
      · have HEk := Lib.hid he
        have he' : (mulE x y != 0) = true := by simpa using he
        clear he
        go_wp2
        go_ret2
        have e1 : alF M r V = mulE x y := by
          rw [← HD.out.2]
          exact first3_at (e := alPE M r V) hlt HZ.out (by rw [HD.out.2]; exact HEk.out)
        have e2 : alF M r V ≠ 0 := by rw [e1]; exact HEk.out
        exact ⟨by rw [(al_no l e2).1, (al_no l e2).2, e1]; rfl, HB2.out⟩
    · obtain rfl : k = 3 := by omega
      obtain ⟨pa, pcap, rfl, hprow⟩ := HOwn.out.row
      have HP : Hid (Row wr pa 4 (alR M r V l)) := Lib.hid hprow
      clear hprow
      go_wp2_with fail
      refine (radd_any _ _ _ _ _ HP.out).mono ?_
      rintro e w2 ⟨rfl, rfl⟩
      go_wp2
      go_ret2
      have e1 : alF M r V = 0 := first3_none (e := alPE M r V) HZ.out
      have e2 : addV (alL M r V l) = addV (alR M r V l) := (addV_rot ..).symm
      have e3 : addE (alL M r V l) = addE (alR M r V l) := (addE_rot ..).symm
      exact ⟨by rw [(al_yes l e1).1, (al_yes l e1).2, e2, e3]; rfl, HB.out⟩

end Go.Proofs.Ytjdoneacbnalaaa
