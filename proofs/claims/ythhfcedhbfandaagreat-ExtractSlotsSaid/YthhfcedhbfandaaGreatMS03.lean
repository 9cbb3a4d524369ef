/-
  9 texts in one file, each with its own heading.
-/
import Derived.Test.YthhfcedhbfandaaGreatMS02
import Derived.WalkKit
import Derived.ProofKit
import Derived.OpenShut
import Derived.Deep.Slices
import Derived.Laws.IdiomArrays
/-
  What package affine's Mul answers: the product of a list of matrices.
-/
namespace Go.Proofs.YthhfcedhbfandaaGreat
open Go.RowKit

def foldM (P : Nat → Int) : List (Nat → Int) → (Nat → Int) × Int
  | [] => (P, 0)
  | M :: Ms => if prodE2 P M = 0 then foldM (prodM P M) Ms else (zeroM, prodE2 P M)
def mulMs (Ms : List (Nat → Int)) : (Nat → Int) × Int :=
  if rightM Ms then (match Ms with | [] => (sameM, 0) | M :: Ms => foldM M Ms) else (zeroM, 1)
theorem mulMs_no {Ms : List (Nat → Int)} (h : rightM Ms = false) : mulMs Ms = (zeroM, 1) := by unfold mulMs; rw [h]; rfl
theorem mulMs_cons {M : Nat → Int} {Ms : List (Nat → Int)} (h : rightM (M :: Ms) = true) : mulMs (M :: Ms) = foldM M Ms := by unfold mulMs; rw [h]; rfl
theorem foldM_ok {P M : Nat → Int} {Ms : List (Nat → Int)} {k : Nat} (h : Ms[k]? = some M) (he : prodE2 P M = 0) : foldM P (Ms.drop k) = foldM (prodM P M) (Ms.drop (k + 1)) := by
  obtain ⟨hk, e⟩ := List.getElem?_eq_some_iff.1 h
  rw [List.drop_eq_getElem_cons hk, e]
  show (if prodE2 P M = 0 then _ else _) = _
  rw [if_pos he]
theorem foldM_no {P M : Nat → Int} {Ms : List (Nat → Int)} {k : Nat} (h : Ms[k]? = some M) (he : prodE2 P M ≠ 0) : foldM P (Ms.drop k) = (zeroM, prodE2 P M) := by
  obtain ⟨hk, e⟩ := List.getElem?_eq_some_iff.1 h
  rw [List.drop_eq_getElem_cons hk, e]
  show (if prodE2 P M = 0 then _ else _) = _
  rw [if_neg he]

theorem mright_b {a : Option Addr} {len cap : Nat} {Ms : List (Nat → Int)} {w : World} {b : Bool} (hr : rightM Ms = b) (row : MRow w a len Ms) :
    Calls Tryz.prog 188 #[.slice a len cap] w fun e w' => e = .returned (.bool b) ∧ Below w.heap.size w w' :=
  (mright_any a len cap Ms w row).mono fun _ _ ⟨he, hw⟩ => ⟨by rw [he, hr], hw⟩

theorem MRow.tail {w : World} {b off n : Nat} {M : Nat → Int} {Ms : List (Nat → Int)} (h : MRow w (some ⟨b, off, none⟩) (n + 1) (M :: Ms)) : MRow w (some ⟨b, off + 12, none⟩) n Ms := by
  obtain ⟨h1, h2, h3⟩ := h
  refine ⟨by simpa using h1, by omega, Or.inr ⟨b, off + 12, rfl, fun i hi j hj => ?_⟩⟩
  rcases h3 with h3 | ⟨b', off', e, hc⟩
  · omega
  · simp at e
    obtain ⟨rfl, rfl⟩ := e
    have := hc (i + 1) (by omega) j hj
    rw [show off + (i + 1) * 12 + j = off + 12 + i * 12 + j by omega] at this
    simpa using this
theorem MRow.head {w : World} {b off n : Nat} {M : Nat → Int} {Ms : List (Nat → Int)} (h : MRow w (some ⟨b, off, none⟩) (n + 1) (M :: Ms)) : w.cell? ⟨b, off, none⟩ = some (.int .i64 (M 0)) ∧ w.cell? ⟨b, off + 1, none⟩ = some (.int .i64 (M 1)) ∧ w.cell? ⟨b, off + 2, none⟩ = some (.int .i64 (M 2)) ∧ w.cell? ⟨b, off + 3, none⟩ = some (.int .i64 (M 3)) ∧ w.cell? ⟨b, off + 4, none⟩ = some (.int .i64 (M 4)) ∧ w.cell? ⟨b, off + 5, none⟩ = some (.int .i64 (M 5)) ∧ w.cell? ⟨b, off + 6, none⟩ = some (.int .i64 (M 6)) ∧ w.cell? ⟨b, off + 7, none⟩ = some (.int .i64 (M 7)) ∧ w.cell? ⟨b, off + 8, none⟩ = some (.int .i64 (M 8)) ∧ w.cell? ⟨b, off + 9, none⟩ = some (.int .i64 (M 9)) ∧ w.cell? ⟨b, off + 10, none⟩ = some (.int .i64 (M 10)) ∧ w.cell? ⟨b, off + 11, none⟩ = some (.int .i64 (M 11)) := by
  obtain ⟨h1, h2, h3⟩ := h
  rcases h3 with h3 | ⟨b', off', e, hc⟩
  · omega
  · simp at e
    obtain ⟨rfl, rfl⟩ := e
    have c := hc 0 (by omega)
    simp only [Nat.zero_mul, Nat.add_zero] at c
    exact ⟨c 0 (by omega), c 1 (by omega), c 2 (by omega), c 3 (by omega), c 4 (by omega), c 5 (by omega), c 6 (by omega), c 7 (by omega), c 8 (by omega), c 9 (by omega), c 10 (by omega), c 11 (by omega)⟩

theorem Blk.set12 {w : World} {g : Nat} {t : TypeId} {x0 x1 x2 x3 x4 x5 x6 x7 x8 x9 x10 x11 u0 u1 u2 u3 u4 u5 u6 u7 u8 u9 u10 u11 : Value} (h : Blk w g t #[x0, x1, x2, x3, x4, x5, x6, x7, x8, x9, x10, x11]) : Blk ((((((((((((w.setCell ⟨g, 0, none⟩ u0).setCell ⟨g, 1, none⟩ u1).setCell ⟨g, 2, none⟩ u2).setCell ⟨g, 3, none⟩ u3).setCell ⟨g, 4, none⟩ u4).setCell ⟨g, 5, none⟩ u5).setCell ⟨g, 6, none⟩ u6).setCell ⟨g, 7, none⟩ u7).setCell ⟨g, 8, none⟩ u8).setCell ⟨g, 9, none⟩ u9).setCell ⟨g, 10, none⟩ u10).setCell ⟨g, 11, none⟩ u11) g t #[u0, u1, u2, u3, u4, u5, u6, u7, u8, u9, u10, u11] := by
  have h0 : Blk (w.setCell ⟨g, 0, none⟩ u0) g t #[u0, x1, x2, x3, x4, x5, x6, x7, x8, x9, x10, x11] := by simpa using h.set_ 0 u0
  have h1 : Blk ((w.setCell ⟨g, 0, none⟩ u0).setCell ⟨g, 1, none⟩ u1) g t #[u0, u1, x2, x3, x4, x5, x6, x7, x8, x9, x10, x11] := by simpa using h0.set_ 1 u1
  have h2 : Blk (((w.setCell ⟨g, 0, none⟩ u0).setCell ⟨g, 1, none⟩ u1).setCell ⟨g, 2, none⟩ u2) g t #[u0, u1, u2, x3, x4, x5, x6, x7, x8, x9, x10, x11] := by simpa using h1.set_ 2 u2
  have h3 : Blk ((((w.setCell ⟨g, 0, none⟩ u0).setCell ⟨g, 1, none⟩ u1).setCell ⟨g, 2, none⟩ u2).setCell ⟨g, 3, none⟩ u3) g t #[u0, u1, u2, u3, x4, x5, x6, x7, x8, x9, x10, x11] := by simpa using h2.set_ 3 u3
  have h4 : Blk (((((w.setCell ⟨g, 0, none⟩ u0).setCell ⟨g, 1, none⟩ u1).setCell ⟨g, 2, none⟩ u2).setCell ⟨g, 3, none⟩ u3).setCell ⟨g, 4, none⟩ u4) g t #[u0, u1, u2, u3, u4, x5, x6, x7, x8, x9, x10, x11] := by simpa using h3.set_ 4 u4
  have h5 : Blk ((((((w.setCell ⟨g, 0, none⟩ u0).setCell ⟨g, 1, none⟩ u1).setCell ⟨g, 2, none⟩ u2).setCell ⟨g, 3, none⟩ u3).setCell ⟨g, 4, none⟩ u4).setCell ⟨g, 5, none⟩ u5) g t #[u0, u1, u2, u3, u4, u5, x6, x7, x8, x9, x10, x11] := by simpa using h4.set_ 5 u5
  have h6 : Blk (((((((w.setCell ⟨g, 0, none⟩ u0).setCell ⟨g, 1, none⟩ u1).setCell ⟨g, 2, none⟩ u2).setCell ⟨g, 3, none⟩ u3).setCell ⟨g, 4, none⟩ u4).setCell ⟨g, 5, none⟩ u5).setCell ⟨g, 6, none⟩ u6) g t #[u0, u1, u2, u3, u4, u5, u6, x7, x8, x9, x10, x11] := by simpa using h5.set_ 6 u6
  have h7 : Blk ((((((((w.setCell ⟨g, 0, none⟩ u0).setCell ⟨g, 1, none⟩ u1).setCell ⟨g, 2, none⟩ u2).setCell ⟨g, 3, none⟩ u3).setCell ⟨g, 4, none⟩ u4).setCell ⟨g, 5, none⟩ u5).setCell ⟨g, 6, none⟩ u6).setCell ⟨g, 7, none⟩ u7) g t #[u0, u1, u2, u3, u4, u5, u6, u7, x8, x9, x10, x11] := by simpa using h6.set_ 7 u7
  have h8 : Blk (((((((((w.setCell ⟨g, 0, none⟩ u0).setCell ⟨g, 1, none⟩ u1).setCell ⟨g, 2, none⟩ u2).setCell ⟨g, 3, none⟩ u3).setCell ⟨g, 4, none⟩ u4).setCell ⟨g, 5, none⟩ u5).setCell ⟨g, 6, none⟩ u6).setCell ⟨g, 7, none⟩ u7).setCell ⟨g, 8, none⟩ u8) g t #[u0, u1, u2, u3, u4, u5, u6, u7, u8, x9, x10, x11] := by simpa using h7.set_ 8 u8
  have h9 : Blk ((((((((((w.setCell ⟨g, 0, none⟩ u0).setCell ⟨g, 1, none⟩ u1).setCell ⟨g, 2, none⟩ u2).setCell ⟨g, 3, none⟩ u3).setCell ⟨g, 4, none⟩ u4).setCell ⟨g, 5, none⟩ u5).setCell ⟨g, 6, none⟩ u6).setCell ⟨g, 7, none⟩ u7).setCell ⟨g, 8, none⟩ u8).setCell ⟨g, 9, none⟩ u9) g t #[u0, u1, u2, u3, u4, u5, u6, u7, u8, u9, x10, x11] := by simpa using h8.set_ 9 u9
  have h10 : Blk (((((((((((w.setCell ⟨g, 0, none⟩ u0).setCell ⟨g, 1, none⟩ u1).setCell ⟨g, 2, none⟩ u2).setCell ⟨g, 3, none⟩ u3).setCell ⟨g, 4, none⟩ u4).setCell ⟨g, 5, none⟩ u5).setCell ⟨g, 6, none⟩ u6).setCell ⟨g, 7, none⟩ u7).setCell ⟨g, 8, none⟩ u8).setCell ⟨g, 9, none⟩ u9).setCell ⟨g, 10, none⟩ u10) g t #[u0, u1, u2, u3, u4, u5, u6, u7, u8, u9, u10, x11] := by simpa using h9.set_ 10 u10
  have h11 : Blk ((((((((((((w.setCell ⟨g, 0, none⟩ u0).setCell ⟨g, 1, none⟩ u1).setCell ⟨g, 2, none⟩ u2).setCell ⟨g, 3, none⟩ u3).setCell ⟨g, 4, none⟩ u4).setCell ⟨g, 5, none⟩ u5).setCell ⟨g, 6, none⟩ u6).setCell ⟨g, 7, none⟩ u7).setCell ⟨g, 8, none⟩ u8).setCell ⟨g, 9, none⟩ u9).setCell ⟨g, 10, none⟩ u10).setCell ⟨g, 11, none⟩ u11) g t #[u0, u1, u2, u3, u4, u5, u6, u7, u8, u9, u10, u11] := by simpa using h10.set_ 11 u11
  exact h11
theorem Blk.far12 {w : World} {g g' : Nat} {t : TypeId} {cs : Array Value} {u0 u1 u2 u3 u4 u5 u6 u7 u8 u9 u10 u11 : Value} (h : Blk w g t cs) (hne : g ≠ g') : Blk ((((((((((((w.setCell ⟨g', 0, none⟩ u0).setCell ⟨g', 1, none⟩ u1).setCell ⟨g', 2, none⟩ u2).setCell ⟨g', 3, none⟩ u3).setCell ⟨g', 4, none⟩ u4).setCell ⟨g', 5, none⟩ u5).setCell ⟨g', 6, none⟩ u6).setCell ⟨g', 7, none⟩ u7).setCell ⟨g', 8, none⟩ u8).setCell ⟨g', 9, none⟩ u9).setCell ⟨g', 10, none⟩ u10).setCell ⟨g', 11, none⟩ u11) g t cs := ((((((((((((h.far (p := ⟨g', 0, none⟩) hne u0).far (p := ⟨g', 1, none⟩) hne u1).far (p := ⟨g', 2, none⟩) hne u2).far (p := ⟨g', 3, none⟩) hne u3).far (p := ⟨g', 4, none⟩) hne u4).far (p := ⟨g', 5, none⟩) hne u5).far (p := ⟨g', 6, none⟩) hne u6).far (p := ⟨g', 7, none⟩) hne u7).far (p := ⟨g', 8, none⟩) hne u8).far (p := ⟨g', 9, none⟩) hne u9).far (p := ⟨g', 10, none⟩) hne u10).far (p := ⟨g', 11, none⟩) hne u11)

set_option maxHeartbeats 1000000 in
theorem mmul_no (a : Option Addr) (len cap : Nat) (Ms : List (Nat → Int)) (w : World) (row : MRow w a len Ms) (h : rightM Ms = false) :
    Calls Tryz.prog 254 #[.slice a len cap] w fun e w' => e = .returned (.tuple #[.agg #[.int .i64 0, .int .i64 0, .int .i64 0, .int .i64 0, .int .i64 0, .int .i64 0, .int .i64 0, .int .i64 0, .int .i64 0, .int .i64 0, .int .i64 0, .int .i64 0], .int .i64 1]) ∧ Below w.heap.size w w' := by
  have HRow := Lib.hid row
  have HO := Lib.hid h
  clear row h
  go_enter Tryz.func254, Tryz.ntmps254
  go_wp2_with fail
  refine (mright_b HO.out (mrow_keep HRow.out (alloc_below _ _))).mono ?_
  rintro e w1 ⟨rfl, b1⟩
  have KR := Lib.hid ((Blk.new w 46 _).keep b1)
  have B1 := Lib.hid (bthen (alloc_below _ _) b1)
  clear b1
  obtain ⟨c0, c1, c2, c3, c4, c5, c6, c7, c8, c9, c10, c11, f0, f1, f2, f3, f4, f5, f6, f7, f8, f9, f10, f11⟩ := blk12 KR.out
  go_wp2
  exact bodyPost_ret (v := .tuple #[.agg #[.int .i64 0, .int .i64 0, .int .i64 0, .int .i64 0, .int .i64 0, .int .i64 0, .int .i64 0, .int .i64 0, .int .i64 0, .int .i64 0, .int .i64 0, .int .i64 0], .int .i64 1]) (by simp [results, Tryz.results254, go_sem, c0, c1, c2, c3, c4, c5, c6, c7, c8, c9, c10, c11]) rfl ⟨rfl, bset12 B1.out (by omega)⟩

set_option maxHeartbeats 1000000 in
theorem mmul_none (a : Option Addr) (cap : Nat) (w : World) :
    Calls Tryz.prog 254 #[.slice a 0 cap] w fun e w' => e = .returned (.tuple #[.agg #[.int .i64 65536, .int .i64 0, .int .i64 0, .int .i64 0, .int .i64 0, .int .i64 65536, .int .i64 0, .int .i64 0, .int .i64 0, .int .i64 0, .int .i64 65536, .int .i64 0], .int .i64 0]) ∧ Below w.heap.size w w' := by
  go_enter Tryz.func254, Tryz.ntmps254
  go_wp2_with fail
  refine (mright_b (Ms := []) (len := 0) rfl ⟨rfl, by omega, Or.inl rfl⟩).mono ?_
  rintro e w1 ⟨rfl, b1⟩
  have KR := Lib.hid ((Blk.new w 46 _).keep b1)
  have B1 := Lib.hid (bthen (alloc_below _ _) b1)
  clear b1
  go_wp2_with fail
  refine (same_any _).mono ?_
  rintro e w2 ⟨rfl, b2⟩
  replace KR := Lib.hid (KR.out.keep b2)
  replace B1 := Lib.hid (bthen B1.out b2)
  clear b2
  obtain ⟨c0, c1, c2, c3, c4, c5, c6, c7, c8, c9, c10, c11, f0, f1, f2, f3, f4, f5, f6, f7, f8, f9, f10, f11⟩ := blk12 KR.out
  go_wp2
  exact bodyPost_ret (v := .tuple #[.agg #[.int .i64 65536, .int .i64 0, .int .i64 0, .int .i64 0, .int .i64 0, .int .i64 65536, .int .i64 0, .int .i64 0, .int .i64 0, .int .i64 0, .int .i64 65536, .int .i64 0], .int .i64 0]) (by simp [results, Tryz.results254, go_sem, c0, c1, c2, c3, c4, c5, c6, c7, c8, c9, c10, c11]) rfl ⟨rfl, bset12 B1.out (by omega)⟩

set_option maxHeartbeats 2000000 in
theorem mmul_some (b off n cap : Nat) (M : Nat → Int) (Ms : List (Nat → Int)) (w : World) (row : MRow w (some ⟨b, off, none⟩) (n + 1) (M :: Ms)) (hcap : n + 1 ≤ cap) (hbig : cap ≤ 9223372036854775807) (h : rightM (M :: Ms) = true) :
    Calls Tryz.prog 254 #[.slice (some ⟨b, off, none⟩) (n + 1) cap] w fun e w' => e = .returned (.tuple #[.agg #[.int .i64 ((foldM M Ms).1 0), .int .i64 ((foldM M Ms).1 1), .int .i64 ((foldM M Ms).1 2), .int .i64 ((foldM M Ms).1 3), .int .i64 ((foldM M Ms).1 4), .int .i64 ((foldM M Ms).1 5), .int .i64 ((foldM M Ms).1 6), .int .i64 ((foldM M Ms).1 7), .int .i64 ((foldM M Ms).1 8), .int .i64 ((foldM M Ms).1 9), .int .i64 ((foldM M Ms).1 10), .int .i64 ((foldM M Ms).1 11)], .int .i64 (foldM M Ms).2]) ∧ Below w.heap.size w w' := by
  have HRow := Lib.hid row
  have HO := Lib.hid h
  clear row h
  go_enter Tryz.func254, Tryz.ntmps254
  go_wp2_with fail
  refine (mright_b HO.out (mrow_keep HRow.out (alloc_below _ _))).mono ?_
  rintro e w1 ⟨rfl, b1⟩
  have KR := Lib.hid ((Blk.new w 46 _).keep b1)
  have B1 := Lib.hid (bthen (alloc_below _ _) b1)
  clear b1
  obtain ⟨m0, m1, m2, m3, m4, m5, m6, m7, m8, m9, m10, m11⟩ := (mrow_keep HRow.out B1.out).head
  by_cases hc1 : cap = 1
  · obtain rfl : n = 0 := by omega
    subst hc1
    obtain rfl : Ms = [] := List.eq_nil_of_length_eq_zero (by have := HRow.out.1; simpa using this)
    go_wp2
    refine wp_loop_rounds 1 ?_
    rw [rounds_succ]
    clear m0 m1 m2 m3 m4 m5 m6 m7 m8 m9 m10 m11
    refine fin (fun W => Blk W w.heap.size 46 #[.int .i64 0, .int .i64 0, .int .i64 0, .int .i64 0, .int .i64 0, .int .i64 0, .int .i64 0, .int .i64 0, .int .i64 0, .int .i64 0, .int .i64 0, .int .i64 0] ∧ Blk W w1.heap.size 46 #[.int .i64 (M 0), .int .i64 (M 1), .int .i64 (M 2), .int .i64 (M 3), .int .i64 (M 4), .int .i64 (M 5), .int .i64 (M 6), .int .i64 (M 7), .int .i64 (M 8), .int .i64 (M 9), .int .i64 (M 10), .int .i64 (M 11)] ∧ Below w.heap.size w W) ⟨KR.out.alloc _, Blk.new w1 _ _, balloc B1.out _⟩ ?_
    rintro W ⟨hk1, hm1, hb1⟩
    have HB := Lib.hid hb1
    clear hb1
    obtain ⟨o0, o1, o2, o3, o4, o5, o6, o7, o8, o9, o10, o11, _, _, _, _, _, _, _, _, _, _, _, _⟩ := blk12 hm1
    obtain ⟨c0, c1, c2, c3, c4, c5, c6, c7, c8, c9, c10, c11, f0, f1, f2, f3, f4, f5, f6, f7, f8, f9, f10, f11⟩ := blk12 hk1
    go_wp2
    exact bodyPost_ret (v := .tuple #[.agg #[.int .i64 (M 0), .int .i64 (M 1), .int .i64 (M 2), .int .i64 (M 3), .int .i64 (M 4), .int .i64 (M 5), .int .i64 (M 6), .int .i64 (M 7), .int .i64 (M 8), .int .i64 (M 9), .int .i64 (M 10), .int .i64 (M 11)], .int .i64 0]) (by simp [results, Tryz.results254, go_sem, c0, c1, c2, c3, c4, c5, c6, c7, c8, c9, c10, c11]) rfl ⟨rfl, bset12 HB.out (by omega)⟩
  go_wp2
  go_loopw [6, 7, 23] (fun _ _ i wr => ∃ k : Nat, ∃ P : Nat → Int, k ≤ n ∧ i = .int .i64 k ∧ foldM M Ms = foldM P (Ms.drop k) ∧ BM wr w1.heap.size P ∧ Blk wr w.heap.size 46 #[.int .i64 0, .int .i64 0, .int .i64 0, .int .i64 0, .int .i64 0, .int .i64 0, .int .i64 0, .int .i64 0, .int .i64 0, .int .i64 0, .int .i64 0, .int .i64 0] ∧ Below w.heap.size w wr) (fun _ _ i _ => n - (intOf i).toNat)
  case atStart => exact ⟨0, M, by omega, rfl, rfl, Blk.new w1 _ _, KR.out.alloc _, balloc B1.out _⟩
  case round =>
    have hne : w.heap.size < w1.heap.size := KR.out.lt
    have hle : w.heap.size ≤ w1.heap.size := B1.out.size
    clear KR B1 m0 m1 m2 m3 m4 m5 m6 m7 m8 m9 m10 m11
    obtain ⟨k, P, hk, rfl, hf, hp, hres, hb⟩ := hrel
    have HF := Lib.hid hf
    have HP := Lib.hid hp
    have HRes := Lib.hid hres
    have HB := Lib.hid hb
    clear hf hp hres hb
    by_cases hlt : k < n
    · obtain ⟨b', off', N, e, hv, m0, m1, m2, m3, m4, m5, m6, m7, m8, m9, m10, m11⟩ := (mrow_keep HRow.out HB.out).tail.at_ hlt
      simp at e
      obtain ⟨rfl, rfl⟩ := e
      have HV := Lib.hid hv
      clear hv
      obtain ⟨p0, p1, p2, p3, p4, p5, p6, p7, p8, p9, p10, p11, _, _, _, _, _, _, _, _, _, _, _, _⟩ := blk12 HP.out
      have zp := HP.out.lt
      go_wp2_with fail
      refine (pair_any P N _).mono ?_
      rintro e w2 ⟨rfl, b2⟩
      have HP2 := Lib.hid (Blk.keep (Blk.alloc HP.out _) b2)
      have HRes2 := Lib.hid ((HRes.out.alloc _).keep b2)
      have HB2 := Lib.hid (bthen (balloc HB.out _) b2)
      clear b2 m0 m1 m2 m3 m4 m5 m6 m7 m8 m9 m10 m11 p0 p1 p2 p3 p4 p5 p6 p7 p8 p9 p10 p11 zp HP HRes HB
      obtain ⟨y, hy⟩ : ∃ y, y = prodE2 P N := ⟨_, rfl⟩
      have HY := Lib.hid hy
      rw [← hy]
      clear hy
      by_cases he : y = 0
      · have HEk := Lib.hid he
        have he' : (y != 0) = false := by rw [he]; rfl
        clear he
        obtain ⟨p0, p1, p2, p3, p4, p5, p6, p7, p8, p9, p10, p11, q0, q1, q2, q3, q4, q5, q6, q7, q8, q9, q10, q11⟩ := blk12 HP2.out
        have zp := HP2.out.lt
        go_wp2
        go_roundw
        case rel =>
          refine ⟨_, _, _, _, _, _, _, _, _, _, _, _, _, _, _, _, _, _, _, _, ?_, rfl⟩
          exact ⟨k + 1, prodM P N, by omega, by go_num, by rw [HF.out]; exact foldM_ok HV.out (by rw [← HY.out]; exact HEk.out), (Blk.set12 HP2.out).alloc _, (HRes2.out.far12 (by omega)).alloc _, balloc (bset12 HB2.out (by omega)) _⟩
        case measure => simp [intOf] <;> omega
      · have HEk := Lib.hid he
        have he' : (y != 0) = true := by simpa using he
        clear he HP2
        have zr := HRes2.out.lt
        obtain ⟨c0, c1, c2, c3, c4, c5, c6, c7, c8, c9, c10, c11, f0, f1, f2, f3, f4, f5, f6, f7, f8, f9, f10, f11⟩ := blk12 HRes2.out
        go_wp2
        refine fin (fun W => Blk W w.heap.size 46 #[.int .i64 0, .int .i64 0, .int .i64 0, .int .i64 0, .int .i64 0, .int .i64 0, .int .i64 0, .int .i64 0, .int .i64 0, .int .i64 0, .int .i64 0, .int .i64 0] ∧ Below w.heap.size w W) ⟨(Blk.set12 HRes2.out).alloc _, balloc (bset12 HB2.out (by omega)) _⟩ ?_
        rintro W ⟨hk1, hb1⟩
        clear c0 c1 c2 c3 c4 c5 c6 c7 c8 c9 c10 c11 f0 f1 f2 f3 f4 f5 f6 f7 f8 f9 f10 f11
        obtain ⟨c0, c1, c2, c3, c4, c5, c6, c7, c8, c9, c10, c11, _, _, _, _, _, _, _, _, _, _, _, _⟩ := blk12 hk1
        have e1 : foldM M Ms = (zeroM, y) := by rw [HF.out, HY.out]; exact foldM_no HV.out (by rw [← HY.out]; exact HEk.out)
        exact bodyPost_ret (v := .tuple #[.agg #[.int .i64 0, .int .i64 0, .int .i64 0, .int .i64 0, .int .i64 0, .int .i64 0, .int .i64 0, .int .i64 0, .int .i64 0, .int .i64 0, .int .i64 0, .int .i64 0], .int .i64 y]) (by simp [results, Tryz.results254, go_sem, c0, c1, c2, c3, c4, c5, c6, c7, c8, c9, c10, c11]) rfl ⟨by rw [e1]; rfl, hb1⟩
    · obtain rfl : k = n := by omega
      have e1 : foldM M Ms = (P, 0) := by rw [HF.out, List.drop_of_length_le (by have := HRow.out.1; simp at this; omega)]; rfl
      have HE := Lib.hid e1
      clear e1
      obtain ⟨o0, o1, o2, o3, o4, o5, o6, o7, o8, o9, o10, o11, _, _, _, _, _, _, _, _, _, _, _, _⟩ := blk12 HP.out
      obtain ⟨c0, c1, c2, c3, c4, c5, c6, c7, c8, c9, c10, c11, f0, f1, f2, f3, f4, f5, f6, f7, f8, f9, f10, f11⟩ := blk12 HRes.out
      go_wp2
      exact bodyPost_ret (v := .tuple #[.agg #[.int .i64 (P 0), .int .i64 (P 1), .int .i64 (P 2), .int .i64 (P 3), .int .i64 (P 4), .int .i64 (P 5), .int .i64 (P 6), .int .i64 (P 7), .int .i64 (P 8), .int .i64 (P 9), .int .i64 (P 10), .int .i64 (P 11)], .int .i64 0]) (by simp [results, Tryz.results254, go_sem, c0, c1, c2, c3, c4, c5, c6, c7, c8, c9, c10, c11]) rfl ⟨by rw [HE.out], bset12 HB.out (by omega)⟩

theorem mmul_any (a : Option Addr) (len cap : Nat) (Ms : List (Nat → Int)) (w : World) (row : MRow w a len Ms) (hcap : len ≤ cap) (hbig : cap ≤ 9223372036854775807) :
    Calls Tryz.prog 254 #[.slice a len cap] w fun e w' => e = .returned (.tuple #[.agg #[.int .i64 ((mulMs Ms).1 0), .int .i64 ((mulMs Ms).1 1), .int .i64 ((mulMs Ms).1 2), .int .i64 ((mulMs Ms).1 3), .int .i64 ((mulMs Ms).1 4), .int .i64 ((mulMs Ms).1 5), .int .i64 ((mulMs Ms).1 6), .int .i64 ((mulMs Ms).1 7), .int .i64 ((mulMs Ms).1 8), .int .i64 ((mulMs Ms).1 9), .int .i64 ((mulMs Ms).1 10), .int .i64 ((mulMs Ms).1 11)], .int .i64 (mulMs Ms).2]) ∧ Below w.heap.size w w' := by
  by_cases h : rightM Ms = true
  · match Ms, row, h with
    | [], row, h =>
      have e := row.1
      simp at e
      subst e
      exact mmul_none a cap w
    | M :: Ms, row, h =>
      have e := row.1
      obtain ⟨n, rfl⟩ : ∃ n, len = n + 1 := ⟨Ms.length, by simpa using e.symm⟩
      obtain ⟨b, off, rfl⟩ : ∃ b off, a = some ⟨b, off, none⟩ := by
        rcases row.2.2 with h0 | ⟨b, off, e, _⟩
        · omega
        · exact ⟨b, off, e⟩
      rw [mulMs_cons h]
      exact mmul_some b off n cap M Ms w row hcap hbig h
  · have h' : rightM Ms = false := by simpa using h
    rw [mulMs_no h']
    exact mmul_no a len cap Ms w row h'

theorem addV_ok (zs : List Int) : okB (addV zs) = true := by
  unfold addV
  by_cases h : addOk zs = true
  · rw [if_pos h]
    unfold fitV
    by_cases h' : okB zs.sum = true
    · rw [if_pos h']; exact h'
    · rw [if_neg h']; decide
  · rw [if_neg h]; decide
theorem alV_ok (M : Nat → Int) (r : Nat) (V : Nat → Int) (l : Int) : okB (alV M r V l) = true := by
  unfold alV
  by_cases h : alF M r V = 0
  · rw [if_pos h]; exact addV_ok _
  · rw [if_neg h]; decide
theorem prodM_ok (A B : Nat → Int) : okM (prodM A B) = true := okM_of fun k _ => by
  unfold prodM gate
  by_cases h : prodE2 A B = 0
  · rw [if_pos h]; exact alV_ok _ _ _ _
  · rw [if_neg h]; decide
end Go.Proofs.YthhfcedhbfandaaGreat
namespace Go.Proofs.YthhfcedhbfandaaGreat
open Go.ChangeShapes Go.WideShapes Go.ChangeAt Go.RowKit Go.Deep

theorem mrow2 {w : World} {g : Nat} {t : TypeId} {A B : Nat → Int} (h : Blk w g t #[.int .i64 (A 0), .int .i64 (A 1), .int .i64 (A 2), .int .i64 (A 3), .int .i64 (A 4), .int .i64 (A 5), .int .i64 (A 6), .int .i64 (A 7), .int .i64 (A 8), .int .i64 (A 9), .int .i64 (A 10), .int .i64 (A 11), .int .i64 (B 0), .int .i64 (B 1), .int .i64 (B 2), .int .i64 (B 3), .int .i64 (B 4), .int .i64 (B 5), .int .i64 (B 6), .int .i64 (B 7), .int .i64 (B 8), .int .i64 (B 9), .int .i64 (B 10), .int .i64 (B 11)]) : MRow w (some ⟨g, 0, none⟩) 2 [A, B] := by
  refine ⟨rfl, by omega, Or.inr ⟨_, _, rfl, fun i hi j hj => ?_⟩⟩
  obtain rfl | rfl : i = 0 ∨ i = 1 := by omega
  · rcases lt12 hj with rfl | rfl | rfl | rfl | rfl | rfl | rfl | rfl | rfl | rfl | rfl | rfl
    · exact h.cell 0
    · exact h.cell 1
    · exact h.cell 2
    · exact h.cell 3
    · exact h.cell 4
    · exact h.cell 5
    · exact h.cell 6
    · exact h.cell 7
    · exact h.cell 8
    · exact h.cell 9
    · exact h.cell 10
    · exact h.cell 11
  · rcases lt12 hj with rfl | rfl | rfl | rfl | rfl | rfl | rfl | rfl | rfl | rfl | rfl | rfl
    · exact h.cell 12
    · exact h.cell 13
    · exact h.cell 14
    · exact h.cell 15
    · exact h.cell 16
    · exact h.cell 17
    · exact h.cell 18
    · exact h.cell 19
    · exact h.cell 20
    · exact h.cell 21
    · exact h.cell 22
    · exact h.cell 23
end Go.Proofs.YthhfcedhbfandaaGreat
namespace Go.Proofs.YthhfcedhbfandaaGreat
open Go.ChangeShapes Go.WideShapes Go.ChangeAt Go.RowKit Go.Deep

section
variable {H : Type} {enc : TypeId × Value → H} {w : World} {base : Nat} {spare : Nat → Bool} {held : Bool}

theorem take1_at {cs : List Value} {i : Nat} {v : Value} (h : (cs.drop i).take 1 = [v]) : cs[i]? = some v := by
  have e := congrArg (fun l => l[0]?) h
  simpa using e

theorem open_nums {t e : TypeId} {k : IntKind} {n fuel : Nat} {cs : List Value} {x : DataW H × List MemPlace} (ht : Tryz.prog.underlying t = some (.array n e)) (he : Tryz.prog.underlying e = some (.int k)) (hc : Tryz.prog.cellsOf e = 1)
    (h : DataW.trod enc Tryz.prog w base spare held fuel t cs = some x) : ∃ M : Nat → Int, ∀ i, i < n → cs[i]? = some (.int k (M i)) ∧ (Lit.int k (M i)).wf = true := by
  obtain ⟨xs, m, _, _, _, hxl, hx⟩ := DataW.trod_array ht h
  rw [hc] at hx
  refine choose_lt (α := Int) (n := n) (p := fun i v => cs[i]? = some (.int k v) ∧ (Lit.int k v).wf = true) (fun i hi => ?_)
  have e0 : xs[i]? = some (xs[i]'(by omega)) := List.getElem?_eq_getElem (by omega)
  obtain ⟨v, ev, _, wv⟩ := DataW.trod_int he ((hx i hi).trans e0)
  rw [Nat.mul_one] at ev
  exact ⟨v, take1_at ev, wv⟩

end
end Go.Proofs.YthhfcedhbfandaaGreat
namespace Go.Proofs.YthhfcedhbfandaaGreat
open Go.ChangeShapes Go.WideShapes Go.ChangeAt Go.RowKit Go.Deep

def Nums (cs : List Value) (n : Nat) (M : Nat → Int) : Prop := ∀ i, i < n → cs[i]? = some (.int .i64 (M i))
theorem nums_piece {cs : List Value} {o n : Nat} {M : Nat → Int} (h : Nums ((cs.drop o).take n) n M) {i : Nat} (hi : i < n) : cs[o + i]? = some (.int .i64 (M i)) := by
  have := h i hi
  rw [List.getElem?_take, if_pos hi, List.getElem?_drop] at this
  exact this
theorem nums_join {cs : List Value} {n m : Nat} {M N : Nat → Int} (h : Nums ((cs.drop 0).take n) n M) (k : Nums ((cs.drop n).take m) m N) : Nums cs (n + m) (fun i => if i < n then M i else N (i - n)) := fun i hi => by
  show cs[i]? = some (.int .i64 (if i < n then M i else N (i - n)))
  by_cases c : i < n
  · rw [if_pos c]
    have := nums_piece h c
    rwa [Nat.zero_add] at this
  · rw [if_neg c]
    have := nums_piece k (i := i - n) (by omega)
    rwa [show n + (i - n) = i by omega] at this
section
variable {H : Type} {enc : TypeId × Value → H} {w : World} {base : Nat} {spare : Nat → Bool} {held : Bool}

theorem vec_nums {fuel : Nat} {cs : List Value} {x : DataW H × List MemPlace} (h : DataW.trod enc Tryz.prog w base spare held fuel 48 cs = some x) : ∃ M, Nums cs 3 M := by
  obtain ⟨M, hM⟩ := open_nums Tryz.underlying48 Tryz.underlying44 (by kernel_rfl) h
  exact ⟨M, fun i hi => (hM i hi).1⟩
theorem box_nums {fuel : Nat} {cs : List Value} {x : DataW H × List MemPlace} (h : DataW.trod enc Tryz.prog w base spare held fuel 50 cs = some x) : ∃ M, Nums cs 6 M := by
  obtain ⟨xs, n, _, _, _, hxl, hx⟩ := DataW.trod_struct Tryz.underlying50 h
  have hxl2 : xs.length = 2 := hxl
  have hC : Tryz.prog.cellsOf 48 = 3 := by kernel_rfl
  have h0 : DataW.trod enc Tryz.prog w base spare held n 48 ((cs.drop 0).take 3) = some (xs[0]'(by omega)) := by
    rw [← hC]; exact (hx 0 _ rfl).trans (List.getElem?_eq_getElem (by omega))
  have h1 : DataW.trod enc Tryz.prog w base spare held n 48 ((cs.drop 3).take 3) = some (xs[1]'(by omega)) := by
    have := (hx 1 _ rfl).trans (List.getElem?_eq_getElem (show 1 < xs.length by omega))
    exact (congrArg (fun c => DataW.trod enc Tryz.prog w base spare held n 48 ((cs.drop 3).take c)) hC.symm).trans this
  obtain ⟨M, hM⟩ := vec_nums h0
  obtain ⟨N, hN⟩ := vec_nums h1
  exact ⟨_, nums_join hM hN⟩
end
end Go.Proofs.YthhfcedhbfandaaGreat
namespace Go.Proofs.YthhfcedhbfandaaGreat
open Go.RowKit

theorem ofInt_nat (x : Int) : (BitVec.ofInt 64 x).toNat = (x % 18446744073709551616).toNat := by
  rw [BitVec.toNat_ofInt]; rfl
def hasN (s : Int) (k : Nat) : Bool := decide (s / 2 ^ k % 2 = 1)
def hasB (s k : Int) : Bool := decide (0 ≤ k) && decide (k ≤ 4) && hasN s k.toNat
theorem has_yes {s : Int} {k : Nat} (h : k ≤ 4) : hasB s k = hasN s k := by
  unfold hasB
  rw [show decide ((0 : Int) ≤ (k : Int)) = true by simp, show decide ((k : Int) ≤ 4) = true by simp; omega]
  simp
def inB (n m : Int) : Bool := decide (0 ≤ n) && decide (n ≤ m)
def splice (X : List Value) (o : Nat) (vs : List Value) : List Value := X.take o ++ vs ++ X.drop (o + vs.length)
theorem splice_len {X : List Value} {o : Nat} {vs : List Value} (h : o + vs.length ≤ X.length) : (splice X o vs).length = X.length := by
  unfold splice; simp; omega
theorem splice_all {X Z : List Value} (h : X.length = Z.length) : splice Z 0 X = X := by
  unfold splice; rw [h]; simp
theorem blk_range {w : World} {g : Nat} {t : TypeId} {X : List Value} (h : Blk w g t X.toArray) (o n : Nat) : w.rangeAt g o ((X.drop o).take n) := fun j v hv => by
  rw [h.cell (o + j)]
  rw [List.getElem?_take] at hv
  by_cases c : j < n
  · rw [if_pos c, List.getElem?_drop] at hv
    simpa using hv
  · rw [if_neg c] at hv; cases hv
theorem blk_whole {w : World} {g : Nat} {t : TypeId} {X : List Value} (h : Blk w g t X.toArray) : w.rangeAt g 0 X := fun j v hv => by
  rw [h.cell (0 + j)]
  simpa using hv
theorem blk_there {w : World} {g : Nat} {t : TypeId} {X : List Value} (h : Blk w g t X.toArray) {o n : Nat} (hn : o + n ≤ X.length) : w.there g o n := fun j hj => by
  refine ⟨?_, h.frozen _⟩
  rw [h.cell (o + j)]
  simp [List.getElem?_eq_getElem (show o + j < X.length by omega)]
theorem blk_setCells : ∀ (vs : List Value) {w : World} {g : Nat} {t : TypeId} {X : List Value} {o : Nat}, Blk w g t X.toArray → o + vs.length ≤ X.length → Blk (w.setCells g o vs) g t (splice X o vs).toArray
  | [], w, g, t, X, o, h, _ => by
    have e : splice X o [] = X := by unfold splice; simp
    rw [e]
    exact h
  | v :: vs, w, g, t, X, o, h, hn => by
    have h1 : Blk (w.setCell ⟨g, o, none⟩ v) g t (X.set o v).toArray := by
      have := h.set_ o v
      simpa using this
    have h2 := blk_setCells vs (o := o + 1) h1 (by simp at hn ⊢; omega)
    have e : splice (X.set o v) (o + 1) vs = splice X o (v :: vs) := by
      have ho : o < X.length := by simp at hn; omega
      have ht : (X.take (o + 1)).set o v = X.take o ++ [v] := by
        rw [List.take_add_one, List.getElem?_eq_getElem ho, List.set_append, if_neg (by simp; omega), show o - (X.take o).length = 0 by simp; omega]
        rfl
      unfold splice
      rw [List.take_set, List.drop_set, if_pos (by omega), ht]
      simp [Nat.add_assoc, Nat.add_comm 1]
    rw [e] at h2
    exact h2
theorem blk_setFar : ∀ (vs : List Value) {w : World} {g g' : Nat} {t : TypeId} {C : Array Value} {o : Nat}, Blk w g t C → g ≠ g' → Blk (w.setCells g' o vs) g t C
  | [], _, _, _, _, _, _, h, _ => h
  | v :: vs, _, _, g', _, _, o, h, hne => blk_setFar vs (h.far (p := ⟨g', o, none⟩) hne v) hne
theorem below_setCells : ∀ (vs : List Value) {B : Nat} {a w : World} {g o : Nat}, Below B a w → B ≤ g → Below B a (w.setCells g o vs)
  | [], _, _, _, _, _, h, _ => h
  | v :: vs, _, _, _, g, o, h, hg => below_setCells vs (h.setCell (p := ⟨g, o, none⟩) hg v) hg

def PL (h : Int) (M : Nat → Int) (m : Int) (B : Nat → Int) (p a : Int) (c : Bool) (l : Int) : List Value := [.int .i64 h, .int .i64 (M 0), .int .i64 (M 1), .int .i64 (M 2), .int .i64 (M 3), .int .i64 (M 4), .int .i64 (M 5), .int .i64 (M 6), .int .i64 (M 7), .int .i64 (M 8), .int .i64 (M 9), .int .i64 (M 10), .int .i64 (M 11), .int .i64 m, .int .i64 (B 0), .int .i64 (B 1), .int .i64 (B 2), .int .i64 (B 3), .int .i64 (B 4), .int .i64 (B 5), .int .i64 p, .int .i64 a, .bool c, .int .i64 l]
theorem PL_len (h : Int) (M : Nat → Int) (m : Int) (B : Nat → Int) (p a : Int) (c : Bool) (l : Int) : (PL h M m B p a c l).length = 24 := rfl
theorem PL_one (h : Int) (M : Nat → Int) (m : Int) (B : Nat → Int) (p a : Int) (c : Bool) (l : Int) : (PL h M m B p a c l).toArray.all (·.oneCell') = true := all_oneCell_toArray (fun v hv => by
  unfold PL at hv
  simp only [List.mem_cons, List.not_mem_nil, or_false] at hv
  rcases hv with rfl | rfl | rfl | rfl | rfl | rfl | rfl | rfl | rfl | rfl | rfl | rfl | rfl | rfl | rfl | rfl | rfl | rfl | rfl | rfl | rfl | rfl | rfl | rfl <;> rfl)
theorem size_parts (h : Int) (M : Nat → Int) (m : Int) (B : Nat → Int) (p a : Int) (c : Bool) (l : Int) : (Tryz.prog.info? 52).map (·.size) = some (PL h M m B p a c l).length := by rw [PL_len]; kernel_rfl
def Z24 : List Value := PL 0 (fun _ => 0) 0 (fun _ => 0) 0 0 false 0

theorem results_cell {fn : Func} {tmps : Array Value} {s : Tmp} {t : TypeId} {g : Nat} {v : Value} {w : World} (hr : fn.results = #[.cell s t]) (hp : tmps.getD s undef = .pointer (some ⟨g, 0, none⟩)) (hl : (loadVar t ⟨g, 0, none⟩).run Tryz.prog w = .ok v w) : (results fn tmps).run Tryz.prog w = .ok v w := by
  unfold results
  rw [hr]
  have hp' : tmps[s]?.getD undef = .pointer (some ⟨g, 0, none⟩) := by simpa using hp
  simp [hp', hl, asAddr]
theorem results_cell2 {fn : Func} {tmps : Array Value} {s r : Tmp} {t : TypeId} {g : Nat} {v u : Value} {w : World} (hr : fn.results = #[.cell s t, .tmp r]) (hp : tmps.getD s undef = .pointer (some ⟨g, 0, none⟩)) (hu : tmps.getD r undef = u) (hl : (loadVar t ⟨g, 0, none⟩).run Tryz.prog w = .ok v w) : (results fn tmps).run Tryz.prog w = .ok (.tuple #[v, u]) w := by
  unfold results
  rw [hr]
  have hp' : tmps[s]?.getD undef = .pointer (some ⟨g, 0, none⟩) := by simpa using hp
  have hu' : tmps[r]?.getD undef = u := by simpa using hu
  simp [hp', hu', hl, asAddr]

def layP (k : Int) (X Y : List Value) : List Value :=
  if k = 0 then splice X 1 ((Y.drop 1).take 12) else if k = 1 then X.take 13 ++ (Y.drop 13).take 7 ++ X.drop 20 else if k = 2 then X.take 20 ++ (Y.drop 20).take 3 ++ X.drop 23 else if k = 3 then X.take 23 ++ Y.drop 23 else X
def kOk (k : Int) : Bool := decide (0 ≤ k) && decide (k ≤ 4)
def addK (s k : Int) : Int := if hasB s k then s else s + 2 ^ k.toNat
def ksOk (ks : List Int) : Bool := ks.all kOk
def ksS (ks : List Int) : Int := ks.foldl addK 0
def ksE (ks : List Int) : Int := if ksOk ks then 0 else 1
def ksV (ks : List Int) : Int := if ksOk ks then ksS ks else 0
theorem kOk_cases {k : Int} (h : kOk k = true) : k = 0 ∨ k = 1 ∨ k = 2 ∨ k = 3 ∨ k = 4 := by
  unfold kOk at h
  simp at h
  omega
theorem addK_bound {s k : Int} (hs : 0 ≤ s ∧ s ≤ 31) (hk : kOk k = true) : 0 ≤ addK s k ∧ addK s k ≤ 31 := by
  unfold addK
  by_cases c : hasB s k = true
  · rw [if_pos c]; exact hs
  · rw [if_neg c]
    have c' : hasB s k = false := by simpa using c
    rcases kOk_cases hk with rfl | rfl | rfl | rfl | rfl
    · have : ¬ (s % 2 = 1) := by simpa [hasB, hasN] using c'
      show 0 ≤ s + 1 ∧ s + 1 ≤ 31
      omega
    · have : ¬ (s / 2 % 2 = 1) := by simpa [hasB, hasN] using c'
      show 0 ≤ s + 2 ∧ s + 2 ≤ 31
      omega
    · have : ¬ (s / 4 % 2 = 1) := by simpa [hasB, hasN] using c'
      show 0 ≤ s + 4 ∧ s + 4 ≤ 31
      omega
    · have : ¬ (s / 8 % 2 = 1) := by simpa [hasB, hasN] using c'
      show 0 ≤ s + 8 ∧ s + 8 ≤ 31
      omega
    · have : ¬ (s / 16 % 2 = 1) := by simpa [hasB, hasN] using c'
      show 0 ≤ s + 16 ∧ s + 16 ≤ 31
      omega
theorem ks_bound : ∀ (ks : List Int) (s : Int), 0 ≤ s ∧ s ≤ 31 → ksOk ks = true → 0 ≤ ks.foldl addK s ∧ ks.foldl addK s ≤ 31
  | [], s, hs, _ => hs
  | k :: r, s, hs, h => by
    unfold ksOk at h
    rw [List.all_cons, Bool.and_eq_true] at h
    exact ks_bound r (addK s k) (addK_bound hs h.1) h.2
theorem ks_succ {ks : List Int} {j : Nat} {k : Int} (h : ks[j]? = some k) : ksS (ks.take (j + 1)) = addK (ksS (ks.take j)) k := by
  unfold ksS
  rw [List.take_add_one, h, List.foldl_append]
  rfl
theorem ksOk_succ {ks : List Int} {j : Nat} {k : Int} (h : ks[j]? = some k) (hr : ksOk (ks.take j) = true) (hk : kOk k = true) : ksOk (ks.take (j + 1)) = true := by
  unfold ksOk at hr ⊢
  rw [List.take_add_one, List.all_append, hr, h]
  simpa using hk
theorem ksOk_bad {ks : List Int} {j : Nat} {k : Int} (h : ks[j]? = some k) (hk : kOk k = false) : ksOk ks = false := by
  unfold ksOk
  rw [List.all_eq_false]
  exact ⟨k, List.mem_of_getElem? h, by simpa using hk⟩
theorem row_at6 {w : World} {a : Option Addr} {len : Nat} {zs : List Int} (h : Row w a len zs) {k : Nat} (hk : k < len) : ∃ b off x, a = some ⟨b, off, none⟩ ∧ zs[k]? = some x ∧ w.cell? ⟨b, off + k, none⟩ = some (.int .i64 x) := by
  obtain ⟨h1, h2, h3⟩ := h
  rcases h3 with h3 | ⟨b, off, rfl, hc⟩
  · omega
  · have hk' : k < zs.length := by omega
    have c := hc k hk
    rw [show zs.getD k 0 = zs[k] by simp [List.getD, List.getElem?_eq_getElem hk']] at c
    exact ⟨b, off, _, rfl, List.getElem?_eq_getElem hk', c⟩
end Go.Proofs.YthhfcedhbfandaaGreat
