/-
  2 texts in one file, each with its own heading.
-/
import Derived.Test.YtiognhmjadiooaaMV11
import Derived.Test.YtiognhmjadiooaaMV09
import Derived.Test.YtiognhmjadiooaaMV05
/-
  Have two boxes a vector in common, walked; a view's clone.
-/
namespace Go.Proofs.Ytiognhmjadiooaa
open Go.RowKit

theorem max_if (b c : Int) : (if b < c then c else b) = max b c := by split <;> omega
theorem min_if (b c : Int) : (if c < b then c else b) = min b c := by split <;> omega
set_option maxHeartbeats 8000000 in
set_option maxRecDepth 10000 in
theorem meet_any (B C : Nat → Int) (w : World) : Calls Try.prog 19 #[.agg #[.int .i64 (B 0), .int .i64 (B 1), .int .i64 (B 2), .int .i64 (B 3), .int .i64 (B 4), .int .i64 (B 5)], .agg #[.int .i64 (C 0), .int .i64 (C 1), .int .i64 (C 2), .int .i64 (C 3), .int .i64 (C 4), .int .i64 (C 5)]] w fun e w' => e = .returned (.bool (meetB B C)) ∧ Below w.heap.size w w' := by
  have K := Lib.hid ((Blk.new w 33 #[.int .i64 (B 0), .int .i64 (B 1), .int .i64 (B 2), .int .i64 (B 3), .int .i64 (B 4), .int .i64 (B 5)]).alloc (.cells #[.int .i64 (C 0), .int .i64 (C 1), .int .i64 (C 2), .int .i64 (C 3), .int .i64 (C 4), .int .i64 (C 5)] 33))
  have K' := Lib.hid (blkAt (Blk.new (w.alloc (.cells #[.int .i64 (B 0), .int .i64 (B 1), .int .i64 (B 2), .int .i64 (B 3), .int .i64 (B 4), .int .i64 (B 5)] 33)) 33 #[.int .i64 (C 0), .int .i64 (C 1), .int .i64 (C 2), .int .i64 (C 3), .int .i64 (C 4), .int .i64 (C 5)]) (g' := w.heap.size + 1) (by simp))
  have HBW := Lib.hid (balloc (alloc_below w (.cells #[.int .i64 (B 0), .int .i64 (B 1), .int .i64 (B 2), .int .i64 (B 3), .int .i64 (B 4), .int .i64 (B 5)] 33)) (.cells #[.int .i64 (C 0), .int .i64 (C 1), .int .i64 (C 2), .int .i64 (C 3), .int .i64 (C 4), .int .i64 (C 5)] 33))
  go_enter Try.func19, Try.ntmps19
  go_wp2
  refine wp_loop_rounds 4 ?_
  obtain ⟨W0, hW0⟩ : ∃ W, W = ((w.alloc (.cells #[.int .i64 (B 0), .int .i64 (B 1), .int .i64 (B 2), .int .i64 (B 3), .int .i64 (B 4), .int .i64 (B 5)] 33)).alloc (.cells #[.int .i64 (C 0), .int .i64 (C 1), .int .i64 (C 2), .int .i64 (C 3), .int .i64 (C 4), .int .i64 (C 5)] 33)) := ⟨_, rfl⟩
  rw [← hW0] at K K' HBW ⊢
  clear hW0
  obtain ⟨x0, hx⟩ : ∃ x, x = (if B 0 < C 0 then C 0 else B 0) := ⟨_, rfl⟩
  obtain ⟨y0, hy⟩ : ∃ y, y = (if C 3 < B 3 then C 3 else B 3) := ⟨_, rfl⟩
  have HM0 : Hid (meetK B C 0 = decide (x0 ≤ y0)) := Lib.hid (by rw [hx, hy, max_if, min_if]; rfl)
  rw [rounds_succ]
  have HS : Hid (∀ w', Below W0.heap.size W0 w' → w'.cell? ⟨w.heap.size, 0, none⟩ = some (.int .i64 (B 0)) ∧ w'.cell? ⟨w.heap.size + 1, 0, none⟩ = some (.int .i64 (C 0)) ∧ w'.cell? ⟨w.heap.size, 3, none⟩ = some (.int .i64 (B 3)) ∧ w'.cell? ⟨w.heap.size + 1, 3, none⟩ = some (.int .i64 (C 3))) := Lib.hid (fun w' hb => ⟨(K.out.keep hb).cell 0, (K'.out.keep hb).cell 0, (K.out.keep hb).cell 3, (K'.out.keep hb).cell 3⟩)
  go_wp2
  refine wp_region_held_drew (S := (fun w' => w'.cell? ⟨w.heap.size, 0, none⟩ = some (.int .i64 (B 0)) ∧ w'.cell? ⟨w.heap.size + 1, 0, none⟩ = some (.int .i64 (C 0)) ∧ w'.cell? ⟨w.heap.size, 3, none⟩ = some (.int .i64 (B 3)) ∧ w'.cell? ⟨w.heap.size + 1, 3, none⟩ = some (.int .i64 (C 3)))) (by kernel_rfl) (HS.out _ (bdrewn (Below.refl _ _))) (fun hHeld => ?_)
  refine tk 0 hHeld ?_
  refine tk 1 hHeld ?_
  refine tk 2 hHeld ?_
  refine tk 3 hHeld ?_
  refine tk 4 hHeld ?_
  refine tk 5 hHeld ?_
  refine tk 6 hHeld ?_
  refine tk 7 hHeld ?_
  refine tk 8 hHeld ?_
  rw [← hx]
  clear hx
  refine tk 9 hHeld ?_
  refine tk 10 hHeld ?_
  refine tk 11 hHeld ?_
  refine tk 12 hHeld ?_
  refine tk 13 hHeld ?_
  refine tk 14 hHeld ?_
  refine tk 15 hHeld ?_
  refine tk 16 hHeld ?_
  refine tk 17 hHeld ?_
  rw [← hy]
  clear hy
  refine tk 18 hHeld ?_
  refine wpAnyH_done (by kernel_rfl) ?_ _
  clear hHeld HS
  have HB0 : Hid (Below W0.heap.size W0 W0.drew) := Lib.hid (bdrewn (Below.refl _ _))
  obtain ⟨W1, hW⟩ : ∃ W, W = W0.drew := ⟨_, rfl⟩
  rw [← hW] at HB0 ⊢
  clear hW
  replace K := Lib.hid (K.out.keep HB0.out)
  replace K' := Lib.hid (K'.out.keep HB0.out)
  replace HBW := Lib.hid (bthen HBW.out HB0.out)
  by_cases c0 : y0 < x0
  · have HN : Hid (meetK B C 0 = false) := Lib.hid (by rw [HM0.out, decide_eq_false_iff_not]; omega)
    go_wp2
    go_ret
    exact ⟨by rw [meet_bad (by omega) HN.out]; rfl, HBW.out⟩
  · have HN0 : Hid (meetK B C 0 = true) := Lib.hid (by rw [HM0.out, decide_eq_true_iff]; omega)
    go_wp2
    clear c0 HM0
    obtain ⟨x1, hx⟩ : ∃ x, x = (if B 1 < C 1 then C 1 else B 1) := ⟨_, rfl⟩
    obtain ⟨y1, hy⟩ : ∃ y, y = (if C 4 < B 4 then C 4 else B 4) := ⟨_, rfl⟩
    have HM1 : Hid (meetK B C 1 = decide (x1 ≤ y1)) := Lib.hid (by rw [hx, hy, max_if, min_if]; rfl)
    rw [rounds_succ]
    have HS : Hid (∀ w', Below W1.heap.size W1 w' → w'.cell? ⟨w.heap.size, 1, none⟩ = some (.int .i64 (B 1)) ∧ w'.cell? ⟨w.heap.size + 1, 1, none⟩ = some (.int .i64 (C 1)) ∧ w'.cell? ⟨w.heap.size, 4, none⟩ = some (.int .i64 (B 4)) ∧ w'.cell? ⟨w.heap.size + 1, 4, none⟩ = some (.int .i64 (C 4))) := Lib.hid (fun w' hb => ⟨(K.out.keep hb).cell 1, (K'.out.keep hb).cell 1, (K.out.keep hb).cell 4, (K'.out.keep hb).cell 4⟩)
    go_wp2
    refine wp_region_held_drew (S := (fun w' => w'.cell? ⟨w.heap.size, 1, none⟩ = some (.int .i64 (B 1)) ∧ w'.cell? ⟨w.heap.size + 1, 1, none⟩ = some (.int .i64 (C 1)) ∧ w'.cell? ⟨w.heap.size, 4, none⟩ = some (.int .i64 (B 4)) ∧ w'.cell? ⟨w.heap.size + 1, 4, none⟩ = some (.int .i64 (C 4)))) (by kernel_rfl) (HS.out _ (bdrewn (Below.refl _ _))) (fun hHeld => ?_)
    refine tk 0 hHeld ?_
    refine tk 1 hHeld ?_
    refine tk 2 hHeld ?_
    refine tk 3 hHeld ?_
    refine tk 4 hHeld ?_
    refine tk 5 hHeld ?_
    refine tk 6 hHeld ?_
    refine tk 7 hHeld ?_
    refine tk 8 hHeld ?_
    rw [← hx]
    clear hx
    refine tk 9 hHeld ?_
    refine tk 10 hHeld ?_
    refine tk 11 hHeld ?_
    refine tk 12 hHeld ?_
    refine tk 13 hHeld ?_
    refine tk 14 hHeld ?_
    refine tk 15 hHeld ?_
    refine tk 16 hHeld ?_
    refine tk 17 hHeld ?_
    rw [← hy]
    clear hy
    refine tk 18 hHeld ?_
    refine wpAnyH_done (by kernel_rfl) ?_ _
    clear hHeld HS
    have HB1 : Hid (Below W1.heap.size W1 W1.drew) := Lib.hid (bdrewn (Below.refl _ _))
    obtain ⟨W2, hW⟩ : ∃ W, W = W1.drew := ⟨_, rfl⟩
    rw [← hW] at HB1 ⊢
    clear hW
    replace K := Lib.hid (K.out.keep HB1.out)
    replace K' := Lib.hid (K'.out.keep HB1.out)
    replace HBW := Lib.hid (bthen HBW.out HB1.out)
    by_cases c1 : y1 < x1
    · have HN : Hid (meetK B C 1 = false) := Lib.hid (by rw [HM1.out, decide_eq_false_iff_not]; omega)
      go_wp2
      go_ret
      exact ⟨by rw [meet_bad (by omega) HN.out]; rfl, HBW.out⟩
    · have HN1 : Hid (meetK B C 1 = true) := Lib.hid (by rw [HM1.out, decide_eq_true_iff]; omega)
      go_wp2
      clear c1 HM1
      obtain ⟨x2, hx⟩ : ∃ x, x = (if B 2 < C 2 then C 2 else B 2) := ⟨_, rfl⟩
      obtain ⟨y2, hy⟩ : ∃ y, y = (if C 5 < B 5 then C 5 else B 5) := ⟨_, rfl⟩
      have HM2 : Hid (meetK B C 2 = decide (x2 ≤ y2)) := Lib.hid (by rw [hx, hy, max_if, min_if]; rfl)
      rw [rounds_succ]
      have HS : Hid (∀ w', Below W2.heap.size W2 w' → w'.cell? ⟨w.heap.size, 2, none⟩ = some (.int .i64 (B 2)) ∧ w'.cell? ⟨w.heap.size + 1, 2, none⟩ = some (.int .i64 (C 2)) ∧ w'.cell? ⟨w.heap.size, 5, none⟩ = some (.int .i64 (B 5)) ∧ w'.cell? ⟨w.heap.size + 1, 5, none⟩ = some (.int .i64 (C 5))) := Lib.hid (fun w' hb => ⟨(K.out.keep hb).cell 2, (K'.out.keep hb).cell 2, (K.out.keep hb).cell 5, (K'.out.keep hb).cell 5⟩)
      go_wp2
      refine wp_region_held_drew (S := (fun w' => w'.cell? ⟨w.heap.size, 2, none⟩ = some (.int .i64 (B 2)) ∧ w'.cell? ⟨w.heap.size + 1, 2, none⟩ = some (.int .i64 (C 2)) ∧ w'.cell? ⟨w.heap.size, 5, none⟩ = some (.int .i64 (B 5)) ∧ w'.cell? ⟨w.heap.size + 1, 5, none⟩ = some (.int .i64 (C 5)))) (by kernel_rfl) (HS.out _ (bdrewn (Below.refl _ _))) (fun hHeld => ?_)
      refine tk 0 hHeld ?_
      refine tk 1 hHeld ?_
      refine tk 2 hHeld ?_
      refine tk 3 hHeld ?_
      refine tk 4 hHeld ?_
      refine tk 5 hHeld ?_
      refine tk 6 hHeld ?_
      refine tk 7 hHeld ?_
      refine tk 8 hHeld ?_
      rw [← hx]
      clear hx
      refine tk 9 hHeld ?_
      refine tk 10 hHeld ?_
      refine tk 11 hHeld ?_
      refine tk 12 hHeld ?_
      refine tk 13 hHeld ?_
      refine tk 14 hHeld ?_
      refine tk 15 hHeld ?_
      refine tk 16 hHeld ?_
      refine tk 17 hHeld ?_
      rw [← hy]
      clear hy
      refine tk 18 hHeld ?_
      refine wpAnyH_done (by kernel_rfl) ?_ _
      clear hHeld HS
      have HB2 : Hid (Below W2.heap.size W2 W2.drew) := Lib.hid (bdrewn (Below.refl _ _))
      obtain ⟨W3, hW⟩ : ∃ W, W = W2.drew := ⟨_, rfl⟩
      rw [← hW] at HB2 ⊢
      clear hW
      replace K := Lib.hid (K.out.keep HB2.out)
      replace K' := Lib.hid (K'.out.keep HB2.out)
      replace HBW := Lib.hid (bthen HBW.out HB2.out)
      by_cases c2 : y2 < x2
      · have HN : Hid (meetK B C 2 = false) := Lib.hid (by rw [HM2.out, decide_eq_false_iff_not]; omega)
        go_wp2
        go_ret
        exact ⟨by rw [meet_bad (by omega) HN.out]; rfl, HBW.out⟩
      · have HN2 : Hid (meetK B C 2 = true) := Lib.hid (by rw [HM2.out, decide_eq_true_iff]; omega)
        go_wp2
        clear c2 HM2
        rw [rounds_succ]
        go_wp2
        go_ret
        exact ⟨by rw [meet_all (fun k hk => by
          obtain rfl | rfl | rfl : k = 0 ∨ k = 1 ∨ k = 2 := by omega
          · exact HN0.out
          · exact HN1.out
          · exact HN2.out)]; rfl, HBW.out⟩
theorem bs_nonePl (W : World) : (Instr.buildSlice 22 0 #[]).run Try.prog W = .ok (.slice (some ⟨W.heap.size, 0, none⟩) 0 0) (W.alloc (.cells #[] 27)) := by kernel_rfl
theorem zPl2_info : (Try.prog.info? 27).map (fun i => (i.zero, i.size, i.bytes)) = some (some (.agg #[.int .i64 0, .int .i64 0, .int .i64 0, .int .i64 0]), 4, 32) := by kernel_rfl
set_option maxHeartbeats 4000000 in
set_option maxRecDepth 100000 in
theorem cloneP_any (av : Option Addr) (n cap : Nat) (X : List (Nat → Int)) (w : World) (row : PlRow w av n X) (hn : n ≤ 1000000) :
    Calls Try.prog 30 #[.slice av n cap] w fun e w' => ∃ v, e = .returned v ∧ OwnX 4 cPl 27 w' w.heap.size v X ∧ Below w.heap.size w w' := by
  have HE : Hid (∀ w, (binOp .eql 22 (.slice av n cap) (.slice none 0 0)).run Try.prog w = .ok (.bool av.isNone) w) := Lib.hid (fun w => Lib.run_eql_slice_nil w _ _ av n cap 0 0 Try.underlying22)
  cases av with
  | none =>
    have h0 : n = 0 := by
      rcases row.2.2 with h | ⟨b, off, e, _⟩
      · exact h
      · cases e
    subst h0
    have hX : X = [] := List.eq_nil_of_length_eq_zero row.1
    subst hX
    clear row
    have he := HE.out
    go_enter Try.func30, Try.ntmps30
    go_wp2
    go_ret
    exact ⟨_, rfl, OwnX.nil _ _ _ _ _, Below.refl _ _⟩
  | some ad =>
    have HR := Lib.hid (row.keep (alloc_below w (.cells #[] 27)))
    have HO : Hid (OwnX 4 cPl 27 (w.alloc (.cells #[] 27)) w.heap.size (.slice (some ⟨w.heap.size, 0, none⟩) 0 0) ([] : List (Nat → Int))) := Lib.hid ⟨by simp, Or.inr ⟨w.heap.size, 0, #[], rfl, Nat.le_refl _, Blk.new _ _ _, Nat.le_refl _, Nat.zero_le _, by simp, by simp⟩⟩
    have hbs := bs_nonePl w
    have he := HE.out
    clear row
    go_enter Try.func30, Try.ntmps30
    go_wp2_with (at_builtin; refine wpList_appendR rfl (.tmp 5) (.tmp 6) 22 32 (.agg #[.int .i64 0, .int .i64 0, .int .i64 0, .int .i64 0]) rfl Try.underlying22 zPl2_info rfl (by decide) (by decide) cPl_len cPl_one rfl HO.out (some ad) n cap rfl HR.out (by simp; omega) (by simp) ?_)
    intro v' W2 k1 k2 _
    have K : Hid (OwnX 4 cPl 27 W2 w.heap.size v' X ∧ Below w.heap.size w W2) := Lib.hid ⟨k1, grown_below2 (alloc_below _ _) k2 (fun b e => by simp [Value.ownBlock] at e; omega)⟩
    clear k1 k2
    go_wp2
    go_ret
    exact ⟨v', rfl, K.out⟩
def VC (w : World) (base : Nat) (v : Value) (X : List (Nat → Int)) (W : World) : Prop := OwnX 4 cPl 27 W base v X ∧ Below w.heap.size w W
theorem VC.set {w W : World} {base g o : Nat} {v u : Value} {X : List (Nat → Int)} (h : VC w base v X W) (h1 : w.heap.size ≤ g) (h2 : g < base) : VC w base v X (W.setCell ⟨g, o, none⟩ u) :=
  ⟨h.1.same (fun b e => Below.heap_setCell _ _ _ _ (by have := (h.1.lt b e).1; show b ≠ g; omega)), h.2.setCell h1 _⟩
set_option maxHeartbeats 4000000 in
set_option maxRecDepth 10000 in
theorem vclone_any (a : Option Addr) (n cap : Nat) (X : List (Nat → Int)) (E : Nat → Int) (m : Int) (w : World) (row : PlRow w a n X) (hn : n ≤ 1000000) :
    Calls Try.prog 16 #[.agg #[.slice a n cap, .int .i64 (E 0), .int .i64 (E 1), .int .i64 (E 2), .int .i64 (E 3), .int .i64 m]] w fun e w' => ∃ v, e = .returned (.agg #[v, .int .i64 (E 0), .int .i64 (E 1), .int .i64 (E 2), .int .i64 (E 3), .int .i64 m]) ∧ OwnX 4 cPl 27 w' (w.heap.size + 2) v X ∧ Below w.heap.size w w' := by
  have hbel := balloc (alloc_below w (.cells #[.slice a n cap, .int .i64 (E 0), .int .i64 (E 1), .int .i64 (E 2), .int .i64 (E 3), .int .i64 m] 29)) (.cells #[.slice none 0 0, .int .i64 0, .int .i64 0, .int .i64 0, .int .i64 0, .int .i64 0] 29)
  have HR := Lib.hid (row.keep hbel)
  have HBel := Lib.hid hbel
  have K := Lib.hid ((Blk.new w 29 #[.slice a n cap, .int .i64 (E 0), .int .i64 (E 1), .int .i64 (E 2), .int .i64 (E 3), .int .i64 m]).alloc (.cells #[.slice none 0 0, .int .i64 0, .int .i64 0, .int .i64 0, .int .i64 0, .int .i64 0] 29))
  have K' := Lib.hid (blkAt (Blk.new (w.alloc (.cells #[.slice a n cap, .int .i64 (E 0), .int .i64 (E 1), .int .i64 (E 2), .int .i64 (E 3), .int .i64 m] 29)) 29 #[.slice none 0 0, .int .i64 0, .int .i64 0, .int .i64 0, .int .i64 0, .int .i64 0]) (g' := w.heap.size + 1) (by simp))
  clear row hbel
  go_enter Try.func16, Try.ntmps16
  go_wp2_with fail
  refine (cloneP_any a n cap X _ HR.out hn).mono ?_
  rintro e w1 ⟨v, rfl, ho, q1⟩
  obtain ⟨a', cap', rfl, _, _, _⟩ := ho.row cPl_len
  have HV : Hid (VC w (w.heap.size + 2) (.slice a' X.length cap') X w1) := Lib.hid ⟨by simpa using ho, bthen HBel.out q1⟩
  have K1 := Lib.hid (K.out.keep q1)
  have K1' := Lib.hid (K'.out.keep q1)
  clear ho q1
  obtain ⟨c0, c1, c2, c3, c4, c5, f0, f1, f2, f3, f4, f5⟩ := blk6 K1.out
  obtain ⟨d0, d1, d2, d3, d4, d5, g0, g1, g2, g3, g4, g5⟩ := blk6 K1'.out
  go_wp2
  exact bodyPost_ret (v := .agg #[.slice a' X.length cap', .int .i64 (E 0), .int .i64 (E 1), .int .i64 (E 2), .int .i64 (E 3), .int .i64 m]) (by simp [results, Try.results16, go_sem, d0, d1, d2, d3, d4, d5]) rfl ⟨_, rfl, VC.set (VC.set (VC.set (VC.set (VC.set (VC.set (VC.set HV.out (Nat.le_refl _) (by omega)) (Nat.le_succ _) (by omega)) (Nat.le_succ _) (by omega)) (Nat.le_succ _) (by omega)) (Nat.le_succ _) (by omega)) (Nat.le_succ _) (by omega)) (Nat.le_succ _) (by omega)⟩
theorem viwright_b {a : Option Addr} {len cap : Nat} {X : List (Nat → Int)} {E : Nat → Int} {m : Int} {w : World} {b : Bool} (row : PlRow w a len X) (h : okVw ⟨X, E, m⟩ = b) :
    Calls Try.prog 10 #[.agg #[.slice a len cap, .int .i64 (E 0), .int .i64 (E 1), .int .i64 (E 2), .int .i64 (E 3), .int .i64 m]] w fun e w' => e = .returned (.bool b) ∧ Below w.heap.size w w' := (viwright_any a len cap X E m w row).mono fun _ _ ⟨he, hw⟩ => ⟨by rw [he, h], hw⟩
theorem rviwright_b {a : Option Addr} {len cap : Nat} {X : List (Nat → Int)} {E : Nat → Int} {m : Int} {w : World} {b : Bool} (row : PlRow w a len X) (h : okVw ⟨X, E, m⟩ = b) :
    Calls Try.prog 11 #[.agg #[.slice a len cap, .int .i64 (E 0), .int .i64 (E 1), .int .i64 (E 2), .int .i64 (E 3), .int .i64 m]] w fun e w' => e = .returned (.bool b) ∧ Below w.heap.size w w' := (rviwright_any a len cap X E m w row).mono fun _ _ ⟨he, hw⟩ => ⟨by rw [he, h], hw⟩
theorem rcblk {w : World} {g : Nat} {t : TypeId} {z0 z1 z2 z3 z4 z5 x0 x1 x2 x3 x4 x5 : Value} (h : Blk w g t #[z0, z1, z2, z3, z4, z5, x0, x1, x2, x3, x4, x5]) : w.cell? ⟨g, 5, none⟩ = some z5 ∧ w.cell? ⟨g, 6, none⟩ = some x0 ∧ w.cell? ⟨g, 7, none⟩ = some x1 ∧ w.cell? ⟨g, 8, none⟩ = some x2 ∧ w.cell? ⟨g, 9, none⟩ = some x3 ∧ w.cell? ⟨g, 10, none⟩ = some x4 ∧ w.cell? ⟨g, 11, none⟩ = some x5 ∧ g < w.heap.size :=
  ⟨h.cell 5, h.cell 6, h.cell 7, h.cell 8, h.cell 9, h.cell 10, h.cell 11, h.lt⟩
def ansT (t : Int × Bool × Int) : Value := .tuple #[.int .i64 t.1, .bool t.2.1, .int .i64 t.2.2]
theorem stop_end {B : Nat → Int} {X : List (Nat → Int)} {n : Nat} (h : X.length = n) : stopS B (X.drop n) = none := by rw [List.drop_of_length_le (by omega)]; rfl
set_option maxHeartbeats 8000000 in
set_option maxRecDepth 10000 in
theorem sees_any (a : Option Addr) (len cap : Nat) (X : List (Nat → Int)) (E : Nat → Int) (m : Int) (z0 z1 z2 z3 z4 : Value) (ly : Int) (B : Nat → Int) (w : World) (row : PlRow w a len X) :
    Calls Try.prog 7 #[.agg #[.slice a len cap, .int .i64 (E 0), .int .i64 (E 1), .int .i64 (E 2), .int .i64 (E 3), .int .i64 m], .agg #[z0, z1, z2, z3, z4, .int .i64 ly, .int .i64 (B 0), .int .i64 (B 1), .int .i64 (B 2), .int .i64 (B 3), .int .i64 (B 4), .int .i64 (B 5)]] w fun e w' => e = .returned (ansT (seeT ⟨X, E, m⟩ ly B)) ∧ Below w.heap.size w w' := by
  have hbig := row.2.1
  have hbel := balloc (alloc_below w (.cells #[.slice a len cap, .int .i64 (E 0), .int .i64 (E 1), .int .i64 (E 2), .int .i64 (E 3), .int .i64 m] 29)) (.cells #[z0, z1, z2, z3, z4, .int .i64 ly, .int .i64 (B 0), .int .i64 (B 1), .int .i64 (B 2), .int .i64 (B 3), .int .i64 (B 4), .int .i64 (B 5)] 35)
  have HLn := Lib.hid row.1
  have HRow := Lib.hid (row.keep hbel)
  have HBel := Lib.hid hbel
  have K := Lib.hid ((Blk.new w 29 #[.slice a len cap, .int .i64 (E 0), .int .i64 (E 1), .int .i64 (E 2), .int .i64 (E 3), .int .i64 m]).alloc (.cells #[z0, z1, z2, z3, z4, .int .i64 ly, .int .i64 (B 0), .int .i64 (B 1), .int .i64 (B 2), .int .i64 (B 3), .int .i64 (B 4), .int .i64 (B 5)] 35))
  have K' := Lib.hid (blkAt (Blk.new (w.alloc (.cells #[.slice a len cap, .int .i64 (E 0), .int .i64 (E 1), .int .i64 (E 2), .int .i64 (E 3), .int .i64 m] 29)) 35 #[z0, z1, z2, z3, z4, .int .i64 ly, .int .i64 (B 0), .int .i64 (B 1), .int .i64 (B 2), .int .i64 (B 3), .int .i64 (B 4), .int .i64 (B 5)]) (g' := w.heap.size + 1) (by simp))
  have HSp : Hid (∀ (P : Nat → Int) w', Calls Try.prog 20 #[.agg #[.int .i64 (P 0), .int .i64 (P 1), .int .i64 (P 2), .int .i64 (P 3)], .agg #[.int .i64 (B 0), .int .i64 (B 1), .int .i64 (B 2), .int .i64 (B 3), .int .i64 (B 4), .int .i64 (B 5)]] w' fun e w'' => e = .returned (.tuple #[.int .i64 (spnLo P B), .int .i64 (spnHi P B), .int .i64 (spnE P B)]) ∧ Below w'.heap.size w' w'') := Lib.hid (fun P w' => shspan_any P B w')
  obtain ⟨b1, hb1⟩ : ∃ b1, okVw ⟨X, E, m⟩ = b1 := ⟨_, rfl⟩
  have HB1 := Lib.hid hb1
  have HNo : Hid (b1 = false → seeT ⟨X, E, m⟩ ly B = (0, false, 1)) := Lib.hid (fun h => see_no (hb1.trans h))
  obtain ⟨z, hz⟩ : ∃ z, bits .and .i64 ly m = z := ⟨_, rfl⟩
  have HAp : Hid (b1 = true → z = 0 → seeT ⟨X, E, m⟩ ly B = (0, false, 0)) := Lib.hid (fun h k => see_apart (hb1.trans h) (hz.trans k))
  have HSt : Hid (∀ e, b1 = true → z ≠ 0 → stopS B X = some e → seeT ⟨X, E, m⟩ ly B = (0, false, e)) := Lib.hid (fun e h k q => see_stop (hb1.trans h) (fun c => k (hz.symm.trans c)) q)
  have HYes : Hid (b1 = true → z ≠ 0 → stopS B X = none → seeT ⟨X, E, m⟩ ly B = (spnLo E B, spnE E B == 0, spnE E B)) := Lib.hid (fun h k q => see_yes (hb1.trans h) (fun c => k (hz.symm.trans c)) q)
  obtain ⟨T, hT⟩ : ∃ T, T = seeT ⟨X, E, m⟩ ly B := ⟨_, rfl⟩
  rw [← hT] at HNo HAp HSt HYes ⊢
  clear row hb1 hbel hT
  go_enter Try.func7, Try.ntmps7
  go_wp2_with fail
  refine (viwright_b HRow.out HB1.out).mono ?_
  rintro e w1 ⟨rfl, q1⟩
  replace K := Lib.hid (K.out.keep q1)
  replace K' := Lib.hid (K'.out.keep q1)
  replace HRow := Lib.hid (HRow.out.keep q1)
  replace HBel := Lib.hid (bthen HBel.out q1)
  clear q1
  obtain ⟨c0, c1, c2, c3, c4, c5, y⟩ := vblk K.out
  obtain ⟨d5, d6, d7, d8, d9, d10, d11, y'⟩ := rcblk K'.out
  cases b1
  · replace HNo := Lib.hid (HNo.out rfl)
    go_wp2
    exact bodyPost_ret (v := .tuple #[.int .i64 0, .bool false, .int .i64 1]) (by simp [results, Try.results7, go_sem]) rfl ⟨by rw [HNo.out]; rfl, HBel.out⟩
  · by_cases hz0 : z = 0
    · replace HAp := Lib.hid (HAp.out rfl hz0)
      clear HNo HSt HYes
      subst hz0
      go_wp2
      exact bodyPost_ret (v := .tuple #[.int .i64 0, .bool false, .int .i64 0]) (by simp [results, Try.results7, go_sem]) rfl ⟨by rw [HAp.out]; rfl, HBel.out⟩
    · replace HSt := Lib.hid (fun e => HSt.out e rfl hz0)
      replace HYes := Lib.hid (HYes.out rfl hz0)
      clear HNo HAp
      have hzb : (z == 0) = false := beq_eq_false_iff_ne.2 hz0
      go_wp2
      clear c0 c1 c2 c3 c4 c5 y d5 d6 d7 d8 d9 d10 d11 y' hz hz0 hzb
      go_loopw [8, 9, 10, 11, 27] (fun _ _ _ _ i wr => ∃ k : Nat, k ≤ len ∧ i = .int .i64 k ∧ stopS B X = stopS B (X.drop k) ∧ Below w1.heap.size w1 wr) (fun _ _ _ _ i _ => len - (ivl i).toNat)
      case atStart => exact ⟨0, Nat.zero_le _, rfl, rfl, Below.refl _ _⟩
      case round =>
        obtain ⟨k, hk, rfl, hr, hb⟩ := hrel
        have HE := Lib.hid hr
        have HB := Lib.hid hb
        clear hr hb
        obtain ⟨c0, c1, c2, c3, c4, c5, y⟩ := vblk (K.out.keep HB.out)
        obtain ⟨d5, d6, d7, d8, d9, d10, d11, y'⟩ := rcblk (K'.out.keep HB.out)
        by_cases hlt : k < len
        · have hk0 : (0 : Int) ≤ (k : Int) := by omega
          have hk1 : (k : Int) < (len : Int) := by omega
          obtain ⟨b, off, P, rfl, hbl, hx, hv⟩ := HRow.out.at_ hlt
          obtain ⟨m0, m1, m2, m3⟩ := pl_cells (range_same hv (HB.out.block b hbl))
          have HS0 := Lib.hid (stop_at (B := B) hx)
          have HC := HSp.out P
          obtain ⟨sl, hsl⟩ : ∃ sl, sl = spnLo P B := ⟨_, rfl⟩
          obtain ⟨sh, hsh⟩ : ∃ sh, sh = spnHi P B := ⟨_, rfl⟩
          obtain ⟨se, hse⟩ : ∃ se, se = spnE P B := ⟨_, rfl⟩
          rw [← hsl, ← hsh, ← hse] at HC
          rw [← hsh, ← hse] at HS0
          have HC0 := Lib.hid HC
          clear hv hx hbl hsl hsh hse HC
          go_wp2_with fail
          refine (HC0.out _).mono ?_
          rintro e w2 ⟨rfl, q2⟩
          have B2 := Lib.hid (bthen (balloc HB.out (.cells #[.int .i64 (P 0), .int .i64 (P 1), .int .i64 (P 2), .int .i64 (P 3)] 27)) q2)
          clear q2 m0 m1 m2 m3 c0 c1 c2 c3 c4 c5 y d5 d6 d7 d8 d9 d10 d11 y'
          by_cases he : se = 0
          · by_cases hh : sh < 0
            · have HG : Hid (stopS B X = some se) := Lib.hid (by rw [HE.out, HS0.out, if_pos (Or.inr hh)])
              subst he
              go_wp2
              exact bodyPost_ret (v := .tuple #[.int .i64 0, .bool false, .int .i64 0]) (by simp [results, Try.results7, go_sem]) rfl ⟨by rw [HSt.out _ HG.out]; rfl, bthen HBel.out B2.out⟩
            · have HG : Hid (stopS B X = stopS B (X.drop (k + 1))) := Lib.hid (by rw [HE.out, HS0.out, if_neg (fun c => c.elim (fun k => k he) hh)])
              subst he
              go_wp2
              go_roundw
              case rel => exact ⟨k + 1, by omega, by go_num, HG.out, B2.out⟩
              case measure => simp [ivl] <;> omega
          · have HG : Hid (stopS B X = some se) := Lib.hid (by rw [HE.out, HS0.out, if_pos (Or.inl he)])
            go_wp2
            exact bodyPost_ret (v := .tuple #[.int .i64 0, .bool false, .int .i64 se]) (by simp [results, Try.results7, go_sem]) rfl ⟨by rw [HSt.out _ HG.out]; rfl, bthen HBel.out B2.out⟩
        · obtain rfl : k = len := by omega
          have HG : Hid (stopS B X = none) := Lib.hid (HE.out.trans (stop_end HLn.out))
          have HC := HSp.out E
          have HY := Lib.hid (HYes.out HG.out)
          obtain ⟨sl, hsl⟩ : ∃ sl, sl = spnLo E B := ⟨_, rfl⟩
          obtain ⟨sh, hsh⟩ : ∃ sh, sh = spnHi E B := ⟨_, rfl⟩
          obtain ⟨se, hse⟩ : ∃ se, se = spnE E B := ⟨_, rfl⟩
          rw [← hsl, ← hsh, ← hse] at HC
          rw [← hsl, ← hse] at HY
          have HC0 := Lib.hid HC
          clear hsl hsh hse HC
          go_wp2_with fail
          refine (HC0.out _).mono ?_
          rintro e w2 ⟨rfl, q2⟩
          have B2 := Lib.hid (bthen HB.out q2)
          clear q2 c0 c1 c2 c3 c4 c5 y d5 d6 d7 d8 d9 d10 d11 y'
          by_cases he : se = 0
          · subst he
            go_wp2
            exact bodyPost_ret (v := .tuple #[.int .i64 sl, .bool true, .int .i64 0]) (by simp [results, Try.results7, go_sem]) rfl ⟨by rw [HY.out]; rfl, bthen HBel.out B2.out⟩
          · have he' : (se == 0) = false := beq_eq_false_iff_ne.2 he
            have HY' := Lib.hid (HY.out.trans (by rw [he']))
            go_wp2
            exact bodyPost_ret (v := .tuple #[.int .i64 sl, .bool false, .int .i64 se]) (by simp [results, Try.results7, go_sem]) rfl ⟨by rw [HY.out, he']; rfl, bthen HBel.out B2.out⟩
set_option maxHeartbeats 8000000 in
set_option maxRecDepth 10000 in
theorem rsees_any (a : Option Addr) (len cap : Nat) (X : List (Nat → Int)) (E : Nat → Int) (m : Int) (z0 z1 z2 z3 z4 : Value) (ly : Int) (B : Nat → Int) (w : World) (row : PlRow w a len X) :
    Calls Try.prog 8 #[.agg #[.slice a len cap, .int .i64 (E 0), .int .i64 (E 1), .int .i64 (E 2), .int .i64 (E 3), .int .i64 m], .agg #[z0, z1, z2, z3, z4, .int .i64 ly, .int .i64 (B 0), .int .i64 (B 1), .int .i64 (B 2), .int .i64 (B 3), .int .i64 (B 4), .int .i64 (B 5)]] w fun e w' => e = .returned (ansT (seeT ⟨X, E, m⟩ ly B)) ∧ Below w.heap.size w w' := by
  have hbig := row.2.1
  have hbel := balloc (alloc_below w (.cells #[.slice a len cap, .int .i64 (E 0), .int .i64 (E 1), .int .i64 (E 2), .int .i64 (E 3), .int .i64 m] 29)) (.cells #[z0, z1, z2, z3, z4, .int .i64 ly, .int .i64 (B 0), .int .i64 (B 1), .int .i64 (B 2), .int .i64 (B 3), .int .i64 (B 4), .int .i64 (B 5)] 41)
  have HLn := Lib.hid row.1
  have HRow := Lib.hid (row.keep hbel)
  have HBel := Lib.hid hbel
  have K := Lib.hid ((Blk.new w 29 #[.slice a len cap, .int .i64 (E 0), .int .i64 (E 1), .int .i64 (E 2), .int .i64 (E 3), .int .i64 m]).alloc (.cells #[z0, z1, z2, z3, z4, .int .i64 ly, .int .i64 (B 0), .int .i64 (B 1), .int .i64 (B 2), .int .i64 (B 3), .int .i64 (B 4), .int .i64 (B 5)] 41))
  have K' := Lib.hid (blkAt (Blk.new (w.alloc (.cells #[.slice a len cap, .int .i64 (E 0), .int .i64 (E 1), .int .i64 (E 2), .int .i64 (E 3), .int .i64 m] 29)) 41 #[z0, z1, z2, z3, z4, .int .i64 ly, .int .i64 (B 0), .int .i64 (B 1), .int .i64 (B 2), .int .i64 (B 3), .int .i64 (B 4), .int .i64 (B 5)]) (g' := w.heap.size + 1) (by simp))
  have HSp : Hid (∀ (P : Nat → Int) w', Calls Try.prog 22 #[.agg #[.int .i64 (P 0), .int .i64 (P 1), .int .i64 (P 2), .int .i64 (P 3)], .agg #[.int .i64 (B 0), .int .i64 (B 1), .int .i64 (B 2), .int .i64 (B 3), .int .i64 (B 4), .int .i64 (B 5)]] w' fun e w'' => e = .returned (.tuple #[.int .i64 (spnLo P B), .int .i64 (spnHi P B), .int .i64 (spnE P B)]) ∧ Below w'.heap.size w' w'') := Lib.hid (fun P w' => rspan_any P B w')
  obtain ⟨b1, hb1⟩ : ∃ b1, okVw ⟨X, E, m⟩ = b1 := ⟨_, rfl⟩
  have HB1 := Lib.hid hb1
  have HNo : Hid (b1 = false → seeT ⟨X, E, m⟩ ly B = (0, false, 1)) := Lib.hid (fun h => see_no (hb1.trans h))
  obtain ⟨z, hz⟩ : ∃ z, bits .and .i64 ly m = z := ⟨_, rfl⟩
  have HAp : Hid (b1 = true → z = 0 → seeT ⟨X, E, m⟩ ly B = (0, false, 0)) := Lib.hid (fun h k => see_apart (hb1.trans h) (hz.trans k))
  have HSt : Hid (∀ e, b1 = true → z ≠ 0 → stopS B X = some e → seeT ⟨X, E, m⟩ ly B = (0, false, e)) := Lib.hid (fun e h k q => see_stop (hb1.trans h) (fun c => k (hz.symm.trans c)) q)
  have HYes : Hid (b1 = true → z ≠ 0 → stopS B X = none → seeT ⟨X, E, m⟩ ly B = (spnLo E B, spnE E B == 0, spnE E B)) := Lib.hid (fun h k q => see_yes (hb1.trans h) (fun c => k (hz.symm.trans c)) q)
  obtain ⟨T, hT⟩ : ∃ T, T = seeT ⟨X, E, m⟩ ly B := ⟨_, rfl⟩
  rw [← hT] at HNo HAp HSt HYes ⊢
  rw [bits_comm ly m] at hz
  clear row hb1 hbel hT
  go_enter Try.func8, Try.ntmps8
  go_wp2_with fail
  refine (rviwright_b HRow.out HB1.out).mono ?_
  rintro e w1 ⟨rfl, q1⟩
  replace K := Lib.hid (K.out.keep q1)
  replace K' := Lib.hid (K'.out.keep q1)
  replace HRow := Lib.hid (HRow.out.keep q1)
  replace HBel := Lib.hid (bthen HBel.out q1)
  clear q1
  obtain ⟨c0, c1, c2, c3, c4, c5, y⟩ := vblk K.out
  obtain ⟨d5, d6, d7, d8, d9, d10, d11, y'⟩ := rcblk K'.out
  cases b1
  · replace HNo := Lib.hid (HNo.out rfl)
    go_wp2
    exact bodyPost_ret (v := .tuple #[.int .i64 0, .bool false, .int .i64 1]) (by simp [results, Try.results8, go_sem]) rfl ⟨by rw [HNo.out]; rfl, HBel.out⟩
  · by_cases hz0 : z = 0
    · replace HAp := Lib.hid (HAp.out rfl hz0)
      clear HNo HSt HYes
      subst hz0
      go_wp2_with fail
      refine (common_any m ly _).mono ?_
      rintro e w2 ⟨rfl, rfl⟩
      rw [hz]
      go_wp2
      exact bodyPost_ret (v := .tuple #[.int .i64 0, .bool false, .int .i64 0]) (by simp [results, Try.results8, go_sem]) rfl ⟨by rw [HAp.out]; rfl, HBel.out⟩
    · replace HSt := Lib.hid (fun e => HSt.out e rfl hz0)
      replace HYes := Lib.hid (HYes.out rfl hz0)
      clear HNo HAp
      have hzb : (z != 0) = true := bne_iff_ne.2 hz0
      go_wp2_with fail
      refine (common_any m ly _).mono ?_
      rintro e w2 ⟨rfl, rfl⟩
      rw [hz, hzb]
      clear hzb
      go_wp2
      clear c0 c1 c2 c3 c4 c5 y d5 d6 d7 d8 d9 d10 d11 y' hz hz0
      go_loopw [9, 10, 11, 12] (fun i _ _ _ wr => ∃ k : Nat, k ≤ len ∧ i = .int .i64 k ∧ stopS B X = stopS B (X.drop k) ∧ Below w1.heap.size w1 wr) (fun i _ _ _ _ => len - (ivl i).toNat)
      case atStart => exact ⟨0, Nat.zero_le _, rfl, rfl, Below.refl _ _⟩
      case round =>
        obtain ⟨k, hk, rfl, hr, hb⟩ := hrel
        have HE := Lib.hid hr
        have HB := Lib.hid hb
        clear hr hb
        obtain ⟨c0, c1, c2, c3, c4, c5, y⟩ := vblk (K.out.keep HB.out)
        obtain ⟨d5, d6, d7, d8, d9, d10, d11, y'⟩ := rcblk (K'.out.keep HB.out)
        by_cases hlt : k < len
        · have hk0 : (0 : Int) ≤ (k : Int) := by omega
          have hk1 : (k : Int) < (len : Int) := by omega
          obtain ⟨b, off, P, rfl, hbl, hx, hv⟩ := HRow.out.at_ hlt
          obtain ⟨m0, m1, m2, m3⟩ := pl_cells (range_same hv (HB.out.block b hbl))
          have HS0 := Lib.hid (stop_at (B := B) hx)
          have HC := HSp.out P
          obtain ⟨sl, hsl⟩ : ∃ sl, sl = spnLo P B := ⟨_, rfl⟩
          obtain ⟨sh, hsh⟩ : ∃ sh, sh = spnHi P B := ⟨_, rfl⟩
          obtain ⟨se, hse⟩ : ∃ se, se = spnE P B := ⟨_, rfl⟩
          rw [← hsl, ← hsh, ← hse] at HC
          rw [← hsh, ← hse] at HS0
          have HC0 := Lib.hid HC
          clear hv hx hbl hsl hsh hse HC
          have HS : Hid (∀ w', Below wr.heap.size wr w' → (w'.cell? ⟨w.heap.size, 0, none⟩ = some (.slice (some ⟨b, off, none⟩) len cap) ∧ w'.cell? ⟨b, off + k * 4, none⟩ = some (.int .i64 (P 0)) ∧ w'.cell? ⟨b, off + k * 4 + 1, none⟩ = some (.int .i64 (P 1)) ∧ w'.cell? ⟨b, off + k * 4 + 2, none⟩ = some (.int .i64 (P 2)) ∧ w'.cell? ⟨b, off + k * 4 + 3, none⟩ = some (.int .i64 (P 3)) ∧ w'.cell? ⟨w.heap.size + 1, 6, none⟩ = some (.int .i64 (B 0)) ∧ w'.cell? ⟨w.heap.size + 1, 7, none⟩ = some (.int .i64 (B 1)) ∧ w'.cell? ⟨w.heap.size + 1, 8, none⟩ = some (.int .i64 (B 2)) ∧ w'.cell? ⟨w.heap.size + 1, 9, none⟩ = some (.int .i64 (B 3)) ∧ w'.cell? ⟨w.heap.size + 1, 10, none⟩ = some (.int .i64 (B 4)) ∧ w'.cell? ⟨w.heap.size + 1, 11, none⟩ = some (.int .i64 (B 5)))) := Lib.hid (fun w' hb => ⟨cell_keep c0 hb, cell_keep m0 hb, cell_keep m1 hb, cell_keep m2 hb, cell_keep m3 hb, cell_keep d6 hb, cell_keep d7 hb, cell_keep d8 hb, cell_keep d9 hb, cell_keep d10 hb, cell_keep d11 hb⟩)
          go_wp2
          go_region_held3 (fun w' => w'.cell? ⟨w.heap.size, 0, none⟩ = some (.slice (some ⟨b, off, none⟩) len cap) ∧ w'.cell? ⟨b, off + k * 4, none⟩ = some (.int .i64 (P 0)) ∧ w'.cell? ⟨b, off + k * 4 + 1, none⟩ = some (.int .i64 (P 1)) ∧ w'.cell? ⟨b, off + k * 4 + 2, none⟩ = some (.int .i64 (P 2)) ∧ w'.cell? ⟨b, off + k * 4 + 3, none⟩ = some (.int .i64 (P 3)) ∧ w'.cell? ⟨w.heap.size + 1, 6, none⟩ = some (.int .i64 (B 0)) ∧ w'.cell? ⟨w.heap.size + 1, 7, none⟩ = some (.int .i64 (B 1)) ∧ w'.cell? ⟨w.heap.size + 1, 8, none⟩ = some (.int .i64 (B 2)) ∧ w'.cell? ⟨w.heap.size + 1, 9, none⟩ = some (.int .i64 (B 3)) ∧ w'.cell? ⟨w.heap.size + 1, 10, none⟩ = some (.int .i64 (B 4)) ∧ w'.cell? ⟨w.heap.size + 1, 11, none⟩ = some (.int .i64 (B 5))) (first | exact HS.out _ (bdrewn (Below.refl _ _)) | exact HS.out _ (bdrew c9))
            (first | (go_at_call 22; refine (HC0.out _).mono ?_; rintro e w2 ⟨rfl, c9⟩))
          have B2 := Lib.hid (bthen HB.out (bdrew c9))
          clear m0 m1 m2 m3 c0 c1 c2 c3 c4 c5 y d5 d6 d7 d8 d9 d10 d11 y' c9
          by_cases he : se = 0
          · by_cases hh : sh < 0
            · have HG : Hid (stopS B X = some se) := Lib.hid (by rw [HE.out, HS0.out, if_pos (Or.inr hh)])
              subst he
              go_wp2
              exact bodyPost_ret (v := .tuple #[.int .i64 0, .bool false, .int .i64 0]) (by simp [results, Try.results8, go_sem]) rfl ⟨by rw [HSt.out _ HG.out]; rfl, bthen HBel.out B2.out⟩
            · have HG : Hid (stopS B X = stopS B (X.drop (k + 1))) := Lib.hid (by rw [HE.out, HS0.out, if_neg (fun c => c.elim (fun k => k he) hh)])
              subst he
              go_wp2
              go_roundw
              case rel => exact ⟨k + 1, by omega, by go_num, HG.out, B2.out⟩
              case measure => simp [ivl] <;> omega
          · have HG : Hid (stopS B X = some se) := Lib.hid (by rw [HE.out, HS0.out, if_pos (Or.inl he)])
            go_wp2
            exact bodyPost_ret (v := .tuple #[.int .i64 0, .bool false, .int .i64 se]) (by simp [results, Try.results8, go_sem]) rfl ⟨by rw [HSt.out _ HG.out]; rfl, bthen HBel.out B2.out⟩
        · obtain rfl : k = len := by omega
          have HG : Hid (stopS B X = none) := Lib.hid (HE.out.trans (stop_end HLn.out))
          have HC := HSp.out E
          have HY := Lib.hid (HYes.out HG.out)
          obtain ⟨sl, hsl⟩ : ∃ sl, sl = spnLo E B := ⟨_, rfl⟩
          obtain ⟨sh, hsh⟩ : ∃ sh, sh = spnHi E B := ⟨_, rfl⟩
          obtain ⟨se, hse⟩ : ∃ se, se = spnE E B := ⟨_, rfl⟩
          rw [← hsl, ← hsh, ← hse] at HC
          rw [← hsl, ← hse] at HY
          have HC0 := Lib.hid HC
          clear hsl hsh hse HC
          go_wp2_with fail
          refine (HC0.out _).mono ?_
          rintro e w2 ⟨rfl, q2⟩
          have B2 := Lib.hid (bthen HB.out q2)
          clear q2 c0 c1 c2 c3 c4 c5 y d5 d6 d7 d8 d9 d10 d11 y'
          by_cases he : se = 0
          · subst he
            go_wp2
            exact bodyPost_ret (v := .tuple #[.int .i64 sl, .bool true, .int .i64 0]) (by simp [results, Try.results8, go_sem]) rfl ⟨by rw [HY.out]; rfl, bthen HBel.out B2.out⟩
          · have he' : (se == 0) = false := beq_eq_false_iff_ne.2 he
            have HY' := Lib.hid (HY.out.trans (by rw [he']))
            go_wp2
            exact bodyPost_ret (v := .tuple #[.int .i64 sl, .bool false, .int .i64 se]) (by simp [results, Try.results8, go_sem]) rfl ⟨by rw [HY.out, he']; rfl, bthen HBel.out B2.out⟩
end Go.Proofs.Ytiognhmjadiooaa
