/-
  What the reference's Scale and Dot of layer 2 answer.
-/
import Derived.Test.YthdgldoailjhhaaVecJ
namespace Go.Proofs.Ythdgldoailjhhaa
open Go.RowKit

theorem scale_all {x0 x1 x2 n : Int} (h : ok3 x0 x1 x2 = true) : vscaleE x0 x1 x2 n = first3 (mulE x0 n) (mulE x1 n) (mulE x2 n) := by
  by_cases hn : okB n = true
  · exact vscaleE_yes (by rw [h, hn]; rfl)
  · have hn' : okB n = false := by simpa using hn
    rw [vscaleE_no (by rw [hn', Bool.and_false])]
    have e : mulE x0 n = 1 := by unfold mulE; rw [hn', Bool.and_false]; rfl
    unfold first3
    rw [if_neg (by rw [e]; decide), e]

def mulK (X : V3) (n : Int) (k : Nat) : Int := mulV (compK k X) n
def mulEK (X : V3) (n : Int) (k : Nat) : Int := mulE (compK k X) n
def prdK (X Y : V3) (k : Nat) : Int := mulV (compK k X) (compK k Y)
def prdEK (X Y : V3) (k : Nat) : Int := mulE (compK k X) (compK k Y)

theorem own_keep {wr w2 : World} {base : Nat} {v : Value} {n : Nat} {zs : List Int} (h : Owns wr base v n zs) (hb : Below wr.heap.size wr w2) : Owns w2 base v n zs := by
  refine ⟨h.1, ?_⟩
  rcases h.2 with h0 | ⟨g, cap, cur, e, hbs, hh, r⟩
  · exact .inl h0
  · refine .inr ⟨g, cap, cur, e, hbs, ?_, r⟩
    rw [hb.block g (by
      rcases Nat.lt_or_ge g wr.heap.size with hlt | hge
      · exact hlt
      · rw [Array.getElem?_eq_none hge] at hh; cases hh)]
    exact hh

set_option maxHeartbeats 400000 in
theorem rvdot_no (x0 x1 x2 y0 y1 y2 : Int) (w : World) (hr : ok6 x0 x1 x2 y0 y1 y2 = false) :
    Calls Try.prog 37 #[.agg #[.int .i64 x0, .int .i64 x1, .int .i64 x2], .agg #[.int .i64 y0, .int .i64 y1, .int .i64 y2]] w fun e w' => e = .returned (.tuple #[.int .i64 0, .int .i64 1]) ∧ Below w.heap.size w w' := by
  have HR := Lib.hid ((rightV2 x0 x1 x2 y0 y1 y2).trans hr)
  clear hr
  go_enter Try.func37, Try.ntmps37
  go_wp2_with fail
  refine (rvright_no HR.out (vrow2 (blkAt (Blk.new _ _ _) (by simp)))).mono ?_
  rintro e w1 ⟨rfl, b1⟩
  have B1 := Lib.hid (bthen (balloc (balloc (alloc_below _ _) _) _) b1)
  clear b1
  go_wp2
  go_ret2
  exact ⟨rfl, B1.out⟩

theorem prod_list (X Y : V3) {k : Nat} (hk : k < 3) : [prdK X Y 0, prdK X Y 1, prdK X Y 2].take (k + 1) = [prdK X Y 0, prdK X Y 1, prdK X Y 2].take k ++ [prdK X Y k] := by
  obtain rfl | rfl | rfl : k = 0 ∨ k = 1 ∨ k = 2 := by omega
  · rfl
  · rfl
  · rfl

set_option maxHeartbeats 1000000 in
theorem rvdot_yes (x0 x1 x2 y0 y1 y2 : Int) (w : World) (hr : ok6 x0 x1 x2 y0 y1 y2 = true) :
    Calls Try.prog 37 #[.agg #[.int .i64 x0, .int .i64 x1, .int .i64 x2], .agg #[.int .i64 y0, .int .i64 y1, .int .i64 y2]] w fun e w' => e = .returned (.tuple #[.int .i64 (dotV x0 x1 x2 y0 y1 y2), .int .i64 (dotE x0 x1 x2 y0 y1 y2)]) ∧ Below w.heap.size w w' := by
  have HR := Lib.hid ((rightV2 x0 x1 x2 y0 y1 y2).trans hr)
  have HOk := Lib.hid hr
  clear hr
  obtain ⟨i0, hi0, hz0, hz1, hz2⟩ := info_parts f_info
  have HI := Lib.hid (And.intro hi0 (And.intro hz0 (And.intro hz1 hz2)))
  clear hi0 hz0 hz1 hz2
  go_enter Try.func37, Try.ntmps37
  go_wp2_with fail
  refine (rvright_yes HR.out (vrow2 (blkAt (Blk.new _ _ _) (by simp)))).mono ?_
  rintro e w1 ⟨rfl, b1⟩
  have P1 := Lib.hid ((((Blk.new w 27 _).alloc _).alloc _).keep b1)
  have Q1 := Lib.hid (blkAt (((Blk.new (w.alloc _) 27 _).alloc _).keep b1) (g' := w.heap.size + 1) (by simp))
  have B1 := Lib.hid (bthen (balloc (balloc (alloc_below _ _) _) _) b1)
  clear b1
  go_wp2
  go_loopw [7, 8] (fun v i wr => ∃ k : Nat, k ≤ 3 ∧ i = .int .i64 k ∧ (∀ j, j < k → prdEK (x0, x1, x2) (y0, y1, y2) j = 0) ∧ Owns wr w1.heap.size v k ([prdK (x0, x1, x2) (y0, y1, y2) 0, prdK (x0, x1, x2) (y0, y1, y2) 1, prdK (x0, x1, x2) (y0, y1, y2) 2].take k) ∧ Below w1.heap.size w1 wr) (fun _ i _ => 3 - (intOf i).toNat)
  case atStart => exact ⟨0, by omega, rfl, fun j hj => by omega, Owns.nil _ _, Below.refl _ _⟩
  case round =>
    obtain ⟨k, hk, rfl, hz, hown, hb⟩ := hrel
    have HZ := Lib.hid hz
    have HOwn := Lib.hid hown
    have HB := Lib.hid hb
    clear hz hown hb
    by_cases hlt : k < 3
    · have cx := (P1.out.keep HB.out).atK hlt
      have cy := (Q1.out.keep HB.out).atK hlt
      obtain ⟨x, hx⟩ : ∃ x, x = compK k (x0, x1, x2) := ⟨_, rfl⟩
      obtain ⟨y, hy⟩ : ∃ y, y = compK k (y0, y1, y2) := ⟨_, rfl⟩
      have HD : Hid (prdK (x0, x1, x2) (y0, y1, y2) k = mulV x y ∧ prdEK (x0, x1, x2) (y0, y1, y2) k = mulE x y) := Lib.hid (by unfold prdK prdEK; rw [hx, hy]; exact ⟨rfl, rfl⟩)
      rw [← hx] at cx
      rw [← hy] at cy
      clear hx hy
      have hk0 : (0 : Int) ≤ (k : Int) := by omega
      have hk3 : (k : Int) < 3 := by omega
      go_wp2
      go_region_held3 (fun w' => w'.cell? ⟨w.heap.size, k, none⟩ = some (.int .i64 x) ∧ w'.cell? ⟨w.heap.size + 1, k, none⟩ = some (.int .i64 y)) (first | exact ⟨cell_keepD b2 cx, cell_keepD b2 cy⟩ | go_keep)
        (first | (go_at_call 47; refine (rmul_any _ _ _).mono ?_; rintro e w2 ⟨rfl, b2⟩))
      have B2 := Lib.hid (bdrew b2)
      clear b2
      have HOwn2 : Hid (Owns w2 w1.heap.size _ k _) := Lib.hid (own_keep HOwn.out B2.out)
      by_cases he : mulE x y = 0
      · have HEk := Lib.hid he
        have he' : (mulE x y != 0) = false := by rw [he]; rfl
        clear he
        go_wp2_with (at_builtin; refine wpList_append_own _ rfl (.tmp 34) (.tmp 36) 62 rfl w1.heap.size 23 i0 (.int .i64 0) 1 8 Try.underlying62 HI.out.1 HI.out.2.1 HI.out.2.2.1 HI.out.2.2.2 rfl (by decide) _ _ _ rfl (HOwn2.out.alloc _) ⟨w2.heap.size, 0, none⟩ 1 1 [.int .i64 (mulV x y)] rfl rfl (cell_one_new _ _ _) (by intro u hu; simp at hu; subst hu; rfl) (by unfold maxLen; omega) (by omega) (by have := HB.out.size; have := B2.out.size; simp; omega) ?_)
        intro v' w3 hown' hgrow _
        have HOwn' := Lib.hid hown'
        have HG := Lib.hid hgrow
        clear hown' hgrow
        go_wp2
        go_roundw
        case rel =>
          refine ⟨k + 1, by omega, by go_num, err_step HZ.out (by rw [HD.out.2]; exact HEk.out), ?_, grown_below HOwn2.out (Nat.le_refl _) (bthen HB.out B2.out) (by have := HB.out.size; have := B2.out.size; omega) HG.out⟩
          unfold Owns
          rw [prod_list _ _ hlt, List.map_append, HD.out.1]
          first | exact HOwn'.out | (rw [List.map_take]; exact HOwn'.out)
        case measure => simp [intOf]; omega
      · have HEk := Lib.hid he
        have he' : (mulE x y != 0) = true := by simpa using he
        clear he
        go_wp2
        go_ret2
        have e1 : prodE x0 x1 x2 y0 y1 y2 = mulE x y := by
          rw [← HD.out.2]
          exact first3_at (e := prdEK (x0, x1, x2) (y0, y1, y2)) hlt HZ.out (by rw [HD.out.2]; exact HEk.out)
        have e2 : prodE x0 x1 x2 y0 y1 y2 ≠ 0 := by rw [e1]; exact HEk.out
        exact ⟨by rw [(dot_over HOk.out e2).1, (dot_over HOk.out e2).2, e1]; rfl, bthen B1.out (bthen HB.out B2.out)⟩
    · obtain rfl : k = 3 := by omega
      obtain ⟨pa, pcap, rfl, hprow⟩ := HOwn.out.row
      have HP : Hid (Row wr pa 3 [mulV x0 y0, mulV x1 y1, mulV x2 y2]) := Lib.hid hprow
      clear hprow
      go_wp2_with fail
      refine (radd_any _ _ _ _ _ HP.out).mono ?_
      rintro e w2 ⟨rfl, rfl⟩
      go_wp2
      go_ret2
      have e1 : prodE x0 x1 x2 y0 y1 y2 = 0 := first3_none (e := prdEK (x0, x1, x2) (y0, y1, y2)) HZ.out
      exact ⟨by rw [(dot_yes HOk.out e1).1, (dot_yes HOk.out e1).2]; rfl, bthen B1.out HB.out⟩

theorem rvdot_any (x0 x1 x2 y0 y1 y2 : Int) (w : World) :
    Calls Try.prog 37 #[.agg #[.int .i64 x0, .int .i64 x1, .int .i64 x2], .agg #[.int .i64 y0, .int .i64 y1, .int .i64 y2]] w fun e w' => e = .returned (.tuple #[.int .i64 (dotV x0 x1 x2 y0 y1 y2), .int .i64 (dotE x0 x1 x2 y0 y1 y2)]) ∧ Below w.heap.size w w' := by
  by_cases hr : ok6 x0 x1 x2 y0 y1 y2 = true
  · exact rvdot_yes x0 x1 x2 y0 y1 y2 w hr
  · have hr' : ok6 x0 x1 x2 y0 y1 y2 = false := by simpa using hr
    rw [(dot_no hr').1, (dot_no hr').2]
    exact rvdot_no x0 x1 x2 y0 y1 y2 w hr'

end Go.Proofs.Ythdgldoailjhhaa
