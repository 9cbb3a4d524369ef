/-
  What package affine's Mul answers: the product of a list of matrices.
-/
import Derived.Test.YtjdoneacbnalaaaAffJ
namespace Go.Proofs.Ytjdoneacbnalaaa
open Go.RowKit

/-- the product from P on, and the first error -/
def foldM (P : Nat → Int) : List (Nat → Int) → (Nat → Int) × Int
  | [] => (P, 0)
  | M :: Ms => if prodE2 P M = 0 then foldM (prodM P M) Ms else (zeroM, prodE2 P M)
/-- the product of a list, and the error -/
def mulMs (Ms : List (Nat → Int)) : (Nat → Int) × Int :=
  if rightM Ms then (match Ms with | [] => (sameM, 0) | M :: Ms => foldM M Ms) else (zeroM, 1)
theorem mulMs_no {Ms : List (Nat → Int)} (h : rightM Ms = false) : mulMs Ms = (zeroM, 1) := by unfold mulMs; rw [h]; rfl
theorem mulMs_cons {M : Nat → Int} {Ms : List (Nat → Int)} (h : rightM (M :: Ms) = true) : mulMs (M :: Ms) = foldM M Ms := by unfold mulMs; rw [h]; rfl
theorem foldM_ok {P M : Nat → Int} {Ms : List (Nat → Int)} {k : Nat} (h : Ms[k]? = some M) (he : prodE2 P M = 0) : foldM P (Ms.drop k) = foldM (prodM P M) (Ms.drop (k + 1)) := by
  obtain ⟨hk, e⟩ := List.getElem?_eq_some_iff.1 h
  rw [List.drop_eq_getElem_cons hk, e]
  show (if prodE2 P M = 0 then _ else _) = _
  rw [if_pos he]
theorem foldM_no {P M : Nat → Int} {Ms : List (Nat → Int)} {k : Nat} (h : Ms[k]? = some M) (he : prodE2 P M ≠ 0) : foldM P (Ms.drop k) = (zeroM, prodE2 P M) := by
  obtain ⟨hk, e⟩ := List.getElem?_eq_some_iff.1 h
  rw [List.drop_eq_getElem_cons hk, e]
  show (if prodE2 P M = 0 then _ else _) = _
  rw [if_neg he]

theorem mright_b {a : Option Addr} {len cap : Nat} {Ms : List (Nat → Int)} {w : World} {b : Bool} (hr : rightM Ms = b) (row : MRow w a len Ms) :
    Calls Try.prog 12 #[.slice a len cap] w fun e w' => e = .returned (.bool b) ∧ Below w.heap.size w w' :=
  (mright_any a len cap Ms w row).mono fun _ _ ⟨he, hw⟩ => ⟨by rw [he, hr], hw⟩

/-- the cells of a slice of matrices, and of what is behind the first one -/
theorem MRow.tail {w : World} {b off n : Nat} {M : Nat → Int} {Ms : List (Nat → Int)} (h : MRow w (some ⟨b, off, none⟩) (n + 1) (M :: Ms)) : MRow w (some ⟨b, off + 12, none⟩) n Ms := by
  obtain ⟨h1, h2, h3⟩ := h
  refine ⟨by simpa using h1, by omega, Or.inr ⟨b, off + 12, rfl, fun i hi j hj => ?_⟩⟩
  rcases h3 with h3 | ⟨b', off', e, hc⟩
  · omega
  · simp at e
    obtain ⟨rfl, rfl⟩ := e
    have := hc (i + 1) (by omega) j hj
    rw [show off + (i + 1) * 12 + j = off + 12 + i * 12 + j by omega] at this
    simpa using this
theorem MRow.head {w : World} {b off n : Nat} {M : Nat → Int} {Ms : List (Nat → Int)} (h : MRow w (some ⟨b, off, none⟩) (n + 1) (M :: Ms)) : w.cell? ⟨b, off, none⟩ = some (.int .i64 (M 0)) ∧ w.cell? ⟨b, off + 1, none⟩ = some (.int .i64 (M 1)) ∧ w.cell? ⟨b, off + 2, none⟩ = some (.int .i64 (M 2)) ∧ w.cell? ⟨b, off + 3, none⟩ = some (.int .i64 (M 3)) ∧ w.cell? ⟨b, off + 4, none⟩ = some (.int .i64 (M 4)) ∧ w.cell? ⟨b, off + 5, none⟩ = some (.int .i64 (M 5)) ∧ w.cell? ⟨b, off + 6, none⟩ = some (.int .i64 (M 6)) ∧ w.cell? ⟨b, off + 7, none⟩ = some (.int .i64 (M 7)) ∧ w.cell? ⟨b, off + 8, none⟩ = some (.int .i64 (M 8)) ∧ w.cell? ⟨b, off + 9, none⟩ = some (.int .i64 (M 9)) ∧ w.cell? ⟨b, off + 10, none⟩ = some (.int .i64 (M 10)) ∧ w.cell? ⟨b, off + 11, none⟩ = some (.int .i64 (M 11)) := by
  obtain ⟨h1, h2, h3⟩ := h
  rcases h3 with h3 | ⟨b', off', e, hc⟩
  · omega
  · simp at e
    obtain ⟨rfl, rfl⟩ := e
    have c := hc 0 (by omega)
    simp only [Nat.zero_mul, Nat.add_zero] at c
    exact ⟨c 0 (by omega), c 1 (by omega), c 2 (by omega), c 3 (by omega), c 4 (by omega), c 5 (by omega), c 6 (by omega), c 7 (by omega), c 8 (by omega), c 9 (by omega), c 10 (by omega), c 11 (by omega)⟩

/-- twelve stores into a block, and into another one -/
theorem Blk.set12 {w : World} {g : Nat} {t : TypeId} {x0 x1 x2 x3 x4 x5 x6 x7 x8 x9 x10 x11 u0 u1 u2 u3 u4 u5 u6 u7 u8 u9 u10 u11 : Value} (h : Blk w g t #[x0, x1, x2, x3, x4, x5, x6, x7, x8, x9, x10, x11]) : Blk ((((((((((((w.setCell ⟨g, 0, none⟩ u0).setCell ⟨g, 1, none⟩ u1).setCell ⟨g, 2, none⟩ u2).setCell ⟨g, 3, none⟩ u3).setCell ⟨g, 4, none⟩ u4).setCell ⟨g, 5, none⟩ u5).setCell ⟨g, 6, none⟩ u6).setCell ⟨g, 7, none⟩ u7).setCell ⟨g, 8, none⟩ u8).setCell ⟨g, 9, none⟩ u9).setCell ⟨g, 10, none⟩ u10).setCell ⟨g, 11, none⟩ u11) g t #[u0, u1, u2, u3, u4, u5, u6, u7, u8, u9, u10, u11] := by
  have h0 : Blk (w.setCell ⟨g, 0, none⟩ u0) g t #[u0, x1, x2, x3, x4, x5, x6, x7, x8, x9, x10, x11] := by simpa using h.set_ 0 u0
  have h1 : Blk ((w.setCell ⟨g, 0, none⟩ u0).setCell ⟨g, 1, none⟩ u1) g t #[u0, u1, x2, x3, x4, x5, x6, x7, x8, x9, x10, x11] := by simpa using h0.set_ 1 u1
  have h2 : Blk (((w.setCell ⟨g, 0, none⟩ u0).setCell ⟨g, 1, none⟩ u1).setCell ⟨g, 2, none⟩ u2) g t #[u0, u1, u2, x3, x4, x5, x6, x7, x8, x9, x10, x11] := by simpa using h1.set_ 2 u2
  have h3 : Blk ((((w.setCell ⟨g, 0, none⟩ u0).setCell ⟨g, 1, none⟩ u1).setCell ⟨g, 2, none⟩ u2).setCell ⟨g, 3, none⟩ u3) g t #[u0, u1, u2, u3, x4, x5, x6, x7, x8, x9, x10, x11] := by simpa using h2.set_ 3 u3
  have h4 : Blk (((((w.setCell ⟨g, 0, none⟩ u0).setCell ⟨g, 1, none⟩ u1).setCell ⟨g, 2, none⟩ u2).setCell ⟨g, 3, none⟩ u3).setCell ⟨g, 4, none⟩ u4) g t #[u0, u1, u2, u3, u4, x5, x6, x7, x8, x9, x10, x11] := by simpa using h3.set_ 4 u4
  have h5 : Blk ((((((w.setCell ⟨g, 0, none⟩ u0).setCell ⟨g, 1, none⟩ u1).setCell ⟨g, 2, none⟩ u2).setCell ⟨g, 3, none⟩ u3).setCell ⟨g, 4, none⟩ u4).setCell ⟨g, 5, none⟩ u5) g t #[u0, u1, u2, u3, u4, u5, x6, x7, x8, x9, x10, x11] := by simpa using h4.set_ 5 u5
  have h6 : Blk (((((((w.setCell ⟨g, 0, none⟩ u0).setCell ⟨g, 1, none⟩ u1).setCell ⟨g, 2, none⟩ u2).setCell ⟨g, 3, none⟩ u3).setCell ⟨g, 4, none⟩ u4).setCell ⟨g, 5, none⟩ u5).setCell ⟨g, 6, none⟩ u6) g t #[u0, u1, u2, u3, u4, u5, u6, x7, x8, x9, x10, x11] := by simpa using h5.set_ 6 u6
  have h7 : Blk ((((((((w.setCell ⟨g, 0, none⟩ u0).setCell ⟨g, 1, none⟩ u1).setCell ⟨g, 2, none⟩ u2).setCell ⟨g, 3, none⟩ u3).setCell ⟨g, 4, none⟩ u4).setCell ⟨g, 5, none⟩ u5).setCell ⟨g, 6, none⟩ u6).setCell ⟨g, 7, none⟩ u7) g t #[u0, u1, u2, u3, u4, u5, u6, u7, x8, x9, x10, x11] := by simpa using h6.set_ 7 u7
  have h8 : Blk (((((((((w.setCell ⟨g, 0, none⟩ u0).setCell ⟨g, 1, none⟩ u1).setCell ⟨g, 2, none⟩ u2).setCell ⟨g, 3, none⟩ u3).setCell ⟨g, 4, none⟩ u4).setCell ⟨g, 5, none⟩ u5).setCell ⟨g, 6, none⟩ u6).setCell ⟨g, 7, none⟩ u7).setCell ⟨g, 8, none⟩ u8) g t #[u0, u1, u2, u3, u4, u5, u6, u7, u8, x9, x10, x11] := by simpa using h7.set_ 8 u8
  have h9 : Blk ((((((((((w.setCell ⟨g, 0, none⟩ u0).setCell ⟨g, 1, none⟩ u1).setCell ⟨g, 2, none⟩ u2).setCell ⟨g, 3, none⟩ u3).setCell ⟨g, 4, none⟩ u4).setCell ⟨g, 5, none⟩ u5).setCell ⟨g, 6, none⟩ u6).setCell ⟨g, 7, none⟩ u7).setCell ⟨g, 8, none⟩ u8).setCell ⟨g, 9, none⟩ u9) g t #[u0, u1, u2, u3, u4, u5, u6, u7, u8, u9, x10, x11] := by simpa using h8.set_ 9 u9
  have h10 : Blk (((((((((((w.setCell ⟨g, 0, none⟩ u0).setCell ⟨g, 1, none⟩ u1).setCell ⟨g, 2, none⟩ u2).setCell ⟨g, 3, none⟩ u3).setCell ⟨g, 4, none⟩ u4).setCell ⟨g, 5, none⟩ u5).setCell ⟨g, 6, none⟩ u6).setCell ⟨g, 7, none⟩ u7).setCell ⟨g, 8, none⟩ u8).setCell ⟨g, 9, none⟩ u9).setCell ⟨g, 10, none⟩ u10) g t #[u0, u1, u2, u3, u4, u5, u6, u7, u8, u9, u10, x11] := by simpa using h9.set_ 10 u10
  have h11 : Blk ((((((((((((w.setCell ⟨g, 0, none⟩ u0).setCell ⟨g, 1, none⟩ u1).setCell ⟨g, 2, none⟩ u2).setCell ⟨g, 3, none⟩ u3).setCell ⟨g, 4, none⟩ u4).setCell ⟨g, 5, none⟩ u5).setCell ⟨g, 6, none⟩ u6).setCell ⟨g, 7, none⟩ u7).setCell ⟨g, 8, none⟩ u8).setCell ⟨g, 9, none⟩ u9).setCell ⟨g, 10, none⟩ u10).setCell ⟨g, 11, none⟩ u11) g t #[u0, u1, u2, u3, u4, u5, u6, u7, u8, u9, u10, u11] := by simpa using h10.set_ 11 u11
  exact h11
theorem Blk.far12 {w : World} {g g' : Nat} {t : TypeId} {cs : Array Value} {u0 u1 u2 u3 u4 u5 u6 u7 u8 u9 u10 u11 : Value} (h : Blk w g t cs) (hne : g ≠ g') : Blk ((((((((((((w.setCell ⟨g', 0, none⟩ u0).setCell ⟨g', 1, none⟩ u1).setCell ⟨g', 2, none⟩ u2).setCell ⟨g', 3, none⟩ u3).setCell ⟨g', 4, none⟩ u4).setCell ⟨g', 5, none⟩ u5).setCell ⟨g', 6, none⟩ u6).setCell ⟨g', 7, none⟩ u7).setCell ⟨g', 8, none⟩ u8).setCell ⟨g', 9, none⟩ u9).setCell ⟨g', 10, none⟩ u10).setCell ⟨g', 11, none⟩ u11) g t cs := ((((((((((((h.far (p := ⟨g', 0, none⟩) hne u0).far (p := ⟨g', 1, none⟩) hne u1).far (p := ⟨g', 2, none⟩) hne u2).far (p := ⟨g', 3, none⟩) hne u3).far (p := ⟨g', 4, none⟩) hne u4).far (p := ⟨g', 5, none⟩) hne u5).far (p := ⟨g', 6, none⟩) hne u6).far (p := ⟨g', 7, none⟩) hne u7).far (p := ⟨g', 8, none⟩) hne u8).far (p := ⟨g', 9, none⟩) hne u9).far (p := ⟨g', 10, none⟩) hne u10).far (p := ⟨g', 11, none⟩) hne u11)

set_option maxHeartbeats 1000000 in
theorem mmul_no (a : Option Addr) (len cap : Nat) (Ms : List (Nat → Int)) (w : World) (row : MRow w a len Ms) (h : rightM Ms = false) :
    Calls Try.prog 8 #[.slice a len cap] w fun e w' => e = .returned (.tuple #[.agg #[.int .i64 0, .int .i64 0, .int .i64 0, .int .i64 0, .int .i64 0, .int .i64 0, .int .i64 0, .int .i64 0, .int .i64 0, .int .i64 0, .int .i64 0, .int .i64 0], .int .i64 1]) ∧ Below w.heap.size w w' := by
  have HRow := Lib.hid row
  have HO := Lib.hid h
  clear row h
  go_enter Try.func8, Try.ntmps8
  go_wp2_with fail
  refine (mright_b HO.out (mrow_keep HRow.out (alloc_below _ _))).mono ?_
  rintro e w1 ⟨rfl, b1⟩
  have KR := Lib.hid ((Blk.new w 25 _).keep b1)
  have B1 := Lib.hid (bthen (alloc_below _ _) b1)
  clear b1
  obtain ⟨c0, c1, c2, c3, c4, c5, c6, c7, c8, c9, c10, c11, f0, f1, f2, f3, f4, f5, f6, f7, f8, f9, f10, f11⟩ := blk12 KR.out
  go_wp2
  exact bodyPost_ret (v := .tuple #[.agg #[.int .i64 0, .int .i64 0, .int .i64 0, .int .i64 0, .int .i64 0, .int .i64 0, .int .i64 0, .int .i64 0, .int .i64 0, .int .i64 0, .int .i64 0, .int .i64 0], .int .i64 1]) (by simp [results, Try.results8, go_sem, c0, c1, c2, c3, c4, c5, c6, c7, c8, c9, c10, c11]) rfl ⟨rfl, bset12 B1.out (by omega)⟩

set_option maxHeartbeats 1000000 in
theorem mmul_none (a : Option Addr) (cap : Nat) (w : World) :
    Calls Try.prog 8 #[.slice a 0 cap] w fun e w' => e = .returned (.tuple #[.agg #[.int .i64 65536, .int .i64 0, .int .i64 0, .int .i64 0, .int .i64 0, .int .i64 65536, .int .i64 0, .int .i64 0, .int .i64 0, .int .i64 0, .int .i64 65536, .int .i64 0], .int .i64 0]) ∧ Below w.heap.size w w' := by
  go_enter Try.func8, Try.ntmps8
  go_wp2_with fail
  refine (mright_b (Ms := []) (len := 0) rfl ⟨rfl, by omega, Or.inl rfl⟩).mono ?_
  rintro e w1 ⟨rfl, b1⟩
  have KR := Lib.hid ((Blk.new w 25 _).keep b1)
  have B1 := Lib.hid (bthen (alloc_below _ _) b1)
  clear b1
  go_wp2_with fail
  refine (same_any _).mono ?_
  rintro e w2 ⟨rfl, b2⟩
  replace KR := Lib.hid (KR.out.keep b2)
  replace B1 := Lib.hid (bthen B1.out b2)
  clear b2
  obtain ⟨c0, c1, c2, c3, c4, c5, c6, c7, c8, c9, c10, c11, f0, f1, f2, f3, f4, f5, f6, f7, f8, f9, f10, f11⟩ := blk12 KR.out
  go_wp2
  exact bodyPost_ret (v := .tuple #[.agg #[.int .i64 65536, .int .i64 0, .int .i64 0, .int .i64 0, .int .i64 0, .int .i64 65536, .int .i64 0, .int .i64 0, .int .i64 0, .int .i64 0, .int .i64 65536, .int .i64 0], .int .i64 0]) (by simp [results, Try.results8, go_sem, c0, c1, c2, c3, c4, c5, c6, c7, c8, c9, c10, c11]) rfl ⟨rfl, bset12 B1.out (by omega)⟩

set_option maxHeartbeats 2000000 in
theorem mmul_some (b off n cap : Nat) (M : Nat → Int) (Ms : List (Nat → Int)) (w : World) (row : MRow w (some ⟨b, off, none⟩) (n + 1) (M :: Ms)) (hcap : n + 1 ≤ cap) (hbig : cap ≤ 9223372036854775807) (h : rightM (M :: Ms) = true) :
    Calls Try.prog 8 #[.slice (some ⟨b, off, none⟩) (n + 1) cap] w fun e w' => e = .returned (.tuple #[.agg #[.int .i64 ((foldM M Ms).1 0), .int .i64 ((foldM M Ms).1 1), .int .i64 ((foldM M Ms).1 2), .int .i64 ((foldM M Ms).1 3), .int .i64 ((foldM M Ms).1 4), .int .i64 ((foldM M Ms).1 5), .int .i64 ((foldM M Ms).1 6), .int .i64 ((foldM M Ms).1 7), .int .i64 ((foldM M Ms).1 8), .int .i64 ((foldM M Ms).1 9), .int .i64 ((foldM M Ms).1 10), .int .i64 ((foldM M Ms).1 11)], .int .i64 (foldM M Ms).2]) ∧ Below w.heap.size w w' := by
  have HRow := Lib.hid row
  have HO := Lib.hid h
  clear row h
  go_enter Try.func8, Try.ntmps8
  go_wp2_with fail
  refine (mright_b HO.out (mrow_keep HRow.out (alloc_below _ _))).mono ?_
  rintro e w1 ⟨rfl, b1⟩
  have KR := Lib.hid ((Blk.new w 25 _).keep b1)
  have B1 := Lib.hid (bthen (alloc_below _ _) b1)
  clear b1
  obtain ⟨m0, m1, m2, m3, m4, m5, m6, m7, m8, m9, m10, m11⟩ := (mrow_keep HRow.out B1.out).head
  by_cases hc1 : cap = 1
  · obtain rfl : n = 0 := by omega
    subst hc1
    obtain rfl : Ms = [] := List.eq_nil_of_length_eq_zero (by have := HRow.out.1; simpa using this)
    go_wp2
    refine wp_loop_rounds 1 ?_
    rw [rounds_succ]
    clear m0 m1 m2 m3 m4 m5 m6 m7 m8 m9 m10 m11
    refine fin (fun W => Blk W w.heap.size 25 #[.int .i64 0, .int .i64 0, .int .i64 0, .int .i64 0, .int .i64 0, .int .i64 0, .int .i64 0, .int .i64 0, .int .i64 0, .int .i64 0, .int .i64 0, .int .i64 0] ∧ Blk W w1.heap.size 25 #[.int .i64 (M 0), .int .i64 (M 1), .int .i64 (M 2), .int .i64 (M 3), .int .i64 (M 4), .int .i64 (M 5), .int .i64 (M 6), .int .i64 (M 7), .int .i64 (M 8), .int .i64 (M 9), .int .i64 (M 10), .int .i64 (M 11)] ∧ Below w.heap.size w W) ⟨KR.out.alloc _, Blk.new w1 _ _, balloc B1.out _⟩ ?_
    rintro W ⟨hk1, hm1, hb1⟩
    have HB := Lib.hid hb1
    clear hb1
    obtain ⟨o0, o1, o2, o3, o4, o5, o6, o7, o8, o9, o10, o11, _, _, _, _, _, _, _, _, _, _, _, _⟩ := blk12 hm1
    obtain ⟨c0, c1, c2, c3, c4, c5, c6, c7, c8, c9, c10, c11, f0, f1, f2, f3, f4, f5, f6, f7, f8, f9, f10, f11⟩ := blk12 hk1
    go_wp2
    exact bodyPost_ret (v := .tuple #[.agg #[.int .i64 (M 0), .int .i64 (M 1), .int .i64 (M 2), .int .i64 (M 3), .int .i64 (M 4), .int .i64 (M 5), .int .i64 (M 6), .int .i64 (M 7), .int .i64 (M 8), .int .i64 (M 9), .int .i64 (M 10), .int .i64 (M 11)], .int .i64 0]) (by simp [results, Try.results8, go_sem, c0, c1, c2, c3, c4, c5, c6, c7, c8, c9, c10, c11]) rfl ⟨rfl, bset12 HB.out (by omega)⟩
  go_wp2
  go_loopw [6, 7, 23] (fun _ _ i wr => ∃ k : Nat, ∃ P : Nat → Int, k ≤ n ∧ i = .int .i64 k ∧ foldM M Ms = foldM P (Ms.drop k) ∧ BM wr w1.heap.size P ∧ Blk wr w.heap.size 25 #[.int .i64 0, .int .i64 0, .int .i64 0, .int .i64 0, .int .i64 0, .int .i64 0, .int .i64 0, .int .i64 0, .int .i64 0, .int .i64 0, .int .i64 0, .int .i64 0] ∧ Below w.heap.size w wr) (fun _ _ i _ => n - (intOf i).toNat)
  case atStart => exact ⟨0, M, by omega, rfl, rfl, Blk.new w1 _ _, KR.out.alloc _, balloc B1.out _⟩
  case round =>
    have hne : w.heap.size < w1.heap.size := KR.out.lt
    have hle : w.heap.size ≤ w1.heap.size := B1.out.size
    clear KR B1 m0 m1 m2 m3 m4 m5 m6 m7 m8 m9 m10 m11
    obtain ⟨k, P, hk, rfl, hf, hp, hres, hb⟩ := hrel
    have HF := Lib.hid hf
    have HP := Lib.hid hp
    have HRes := Lib.hid hres
    have HB := Lib.hid hb
    clear hf hp hres hb
    by_cases hlt : k < n
    · obtain ⟨b', off', N, e, hv, m0, m1, m2, m3, m4, m5, m6, m7, m8, m9, m10, m11⟩ := (mrow_keep HRow.out HB.out).tail.at_ hlt
      simp at e
      obtain ⟨rfl, rfl⟩ := e
      have HV := Lib.hid hv
      clear hv
      obtain ⟨p0, p1, p2, p3, p4, p5, p6, p7, p8, p9, p10, p11, _, _, _, _, _, _, _, _, _, _, _, _⟩ := blk12 HP.out
      have zp := HP.out.lt
      go_wp2_with fail
      refine (pair_any P N _).mono ?_
      rintro e w2 ⟨rfl, b2⟩
      have HP2 := Lib.hid (Blk.keep (Blk.alloc HP.out _) b2)
      have HRes2 := Lib.hid ((HRes.out.alloc _).keep b2)
      have HB2 := Lib.hid (bthen (balloc HB.out _) b2)
      clear b2 m0 m1 m2 m3 m4 m5 m6 m7 m8 m9 m10 m11 p0 p1 p2 p3 p4 p5 p6 p7 p8 p9 p10 p11 zp HP HRes HB
      obtain ⟨y, hy⟩ : ∃ y, y = prodE2 P N := ⟨_, rfl⟩
      have HY := Lib.hid hy
      rw [← hy]
      clear hy
      by_cases he : y = 0
      · have HEk := Lib.hid he
        have he' : (y != 0) = false := by rw [he]; rfl
        clear he
        obtain ⟨p0, p1, p2, p3, p4, p5, p6, p7, p8, p9, p10, p11, q0, q1, q2, q3, q4, q5, q6, q7, q8, q9, q10, q11⟩ := blk12 HP2.out
        have zp := HP2.out.lt
        go_wp2
        go_roundw
        case rel =>
          refine ⟨_, _, _, _, _, _, _, _, _, _, _, _, _, _, _, _, _, _, _, _, ?_, rfl⟩
          exact ⟨k + 1, prodM P N, by omega, by go_num, by rw [HF.out]; exact foldM_ok HV.out (by rw [← HY.out]; exact HEk.out), (Blk.set12 HP2.out).alloc _, (HRes2.out.far12 (by omega)).alloc _, balloc (bset12 HB2.out (by omega)) _⟩
        case measure => simp [intOf] <;> omega
      · have HEk := Lib.hid he
        have he' : (y != 0) = true := by simpa using he
        clear he HP2
        have zr := HRes2.out.lt
        obtain ⟨c0, c1, c2, c3, c4, c5, c6, c7, c8, c9, c10, c11, f0, f1, f2, f3, f4, f5, f6, f7, f8, f9, f10, f11⟩ := blk12 HRes2.out
        go_wp2
        refine fin (fun W => Blk W w.heap.size 25 #[.int .i64 0, .int .i64 0, .int .i64 0, .int .i64 0, .int .i64 0, .int .i64 0, .int .i64 0, .int .i64 0, .int .i64 0, .int .i64 0, .int .i64 0, .int .i64 0] ∧ Below w.heap.size w W) ⟨(Blk.set12 HRes2.out).alloc _, balloc (bset12 HB2.out (by omega)) _⟩ ?_
        rintro W ⟨hk1, hb1⟩
        clear c0 c1 c2 c3 c4 c5 c6 c7 c8 c9 c10 c11 f0 f1 f2 f3 f4 f5 f6 f7 f8 f9 f10 f11
        obtain ⟨c0, c1, c2, c3, c4, c5, c6, c7, c8, c9, c10, c11, _, _, _, _, _, _, _, _, _, _, _, _⟩ := blk12 hk1
        have e1 : foldM M Ms = (zeroM, y) := by rw [HF.out, HY.out]; exact foldM_no HV.out (by rw [← HY.out]; exact HEk.out)
        exact bodyPost_ret (v := .tuple #[.agg #[.int .i64 0, .int .i64 0, .int .i64 0, .int .i64 0, .int .i64 0, .int .i64 0, .int .i64 0, .int .i64 0, .int .i64 0, .int .i64 0, .int .i64 0, .int .i64 0], .int .i64 y]) (by simp [results, Try.results8, go_sem, c0, c1, c2, c3, c4, c5, c6, c7, c8, c9, c10, c11]) rfl ⟨by rw [e1]; rfl, hb1⟩
    · obtain rfl : k = n := by omega
      have e1 : foldM M Ms = (P, 0) := by rw [HF.out, List.drop_of_length_le (by have := HRow.out.1; simp at this; omega)]; rfl
      have HE := Lib.hid e1
      clear e1
      obtain ⟨o0, o1, o2, o3, o4, o5, o6, o7, o8, o9, o10, o11, _, _, _, _, _, _, _, _, _, _, _, _⟩ := blk12 HP.out
      obtain ⟨c0, c1, c2, c3, c4, c5, c6, c7, c8, c9, c10, c11, f0, f1, f2, f3, f4, f5, f6, f7, f8, f9, f10, f11⟩ := blk12 HRes.out
      go_wp2
      exact bodyPost_ret (v := .tuple #[.agg #[.int .i64 (P 0), .int .i64 (P 1), .int .i64 (P 2), .int .i64 (P 3), .int .i64 (P 4), .int .i64 (P 5), .int .i64 (P 6), .int .i64 (P 7), .int .i64 (P 8), .int .i64 (P 9), .int .i64 (P 10), .int .i64 (P 11)], .int .i64 0]) (by simp [results, Try.results8, go_sem, c0, c1, c2, c3, c4, c5, c6, c7, c8, c9, c10, c11]) rfl ⟨by rw [HE.out], bset12 HB.out (by omega)⟩

theorem mmul_any (a : Option Addr) (len cap : Nat) (Ms : List (Nat → Int)) (w : World) (row : MRow w a len Ms) (hcap : len ≤ cap) (hbig : cap ≤ 9223372036854775807) :
    Calls Try.prog 8 #[.slice a len cap] w fun e w' => e = .returned (.tuple #[.agg #[.int .i64 ((mulMs Ms).1 0), .int .i64 ((mulMs Ms).1 1), .int .i64 ((mulMs Ms).1 2), .int .i64 ((mulMs Ms).1 3), .int .i64 ((mulMs Ms).1 4), .int .i64 ((mulMs Ms).1 5), .int .i64 ((mulMs Ms).1 6), .int .i64 ((mulMs Ms).1 7), .int .i64 ((mulMs Ms).1 8), .int .i64 ((mulMs Ms).1 9), .int .i64 ((mulMs Ms).1 10), .int .i64 ((mulMs Ms).1 11)], .int .i64 (mulMs Ms).2]) ∧ Below w.heap.size w w' := by
  by_cases h : rightM Ms = true
  · match Ms, row, h with
    | [], row, h =>
      have e := row.1
      simp at e
      subst e
      exact mmul_none a cap w
    | M :: Ms, row, h =>
      have e := row.1
      obtain ⟨n, rfl⟩ : ∃ n, len = n + 1 := ⟨Ms.length, by simpa using e.symm⟩
      obtain ⟨b, off, rfl⟩ : ∃ b off, a = some ⟨b, off, none⟩ := by
        rcases row.2.2 with h0 | ⟨b, off, e, _⟩
        · omega
        · exact ⟨b, off, e⟩
      rw [mulMs_cons h]
      exact mmul_some b off n cap M Ms w row hcap hbig h
  · have h' : rightM Ms = false := by simpa using h
    rw [mulMs_no h']
    exact mmul_no a len cap Ms w row h'

end Go.Proofs.Ytjdoneacbnalaaa
