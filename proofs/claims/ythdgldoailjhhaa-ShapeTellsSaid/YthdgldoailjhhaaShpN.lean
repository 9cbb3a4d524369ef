/-
  What package shape's Join answers.
-/
import Derived.Test.YthdgldoailjhhaaShpM
namespace Go.Proofs.Ythdgldoailjhhaa
open Go.RowKit

theorem set6lo {w : World} {g : Nat} {t : TypeId} {x0 x1 x2 x3 x4 x5 u0 u1 u2 : Value} (h : Blk w g t #[x0, x1, x2, x3, x4, x5]) : Blk (((w.setCell ⟨g, 0, none⟩ u0).setCell ⟨g, 1, none⟩ u1).setCell ⟨g, 2, none⟩ u2) g t #[u0, u1, u2, x3, x4, x5] := by
  have h0 : Blk (w.setCell ⟨g, 0, none⟩ u0) g t #[u0, x1, x2, x3, x4, x5] := by simpa using h.set_ 0 u0
  have h1 : Blk ((w.setCell ⟨g, 0, none⟩ u0).setCell ⟨g, 1, none⟩ u1) g t #[u0, u1, x2, x3, x4, x5] := by simpa using h0.set_ 1 u1
  simpa using h1.set_ 2 u2
theorem set6hi {w : World} {g : Nat} {t : TypeId} {x0 x1 x2 x3 x4 x5 u0 u1 u2 : Value} (h : Blk w g t #[x0, x1, x2, x3, x4, x5]) : Blk (((w.setCell ⟨g, 3, none⟩ u0).setCell ⟨g, 4, none⟩ u1).setCell ⟨g, 5, none⟩ u2) g t #[x0, x1, x2, u0, u1, u2] := by
  have h0 : Blk (w.setCell ⟨g, 3, none⟩ u0) g t #[x0, x1, x2, u0, x4, x5] := by simpa using h.set_ 3 u0
  have h1 : Blk ((w.setCell ⟨g, 3, none⟩ u0).setCell ⟨g, 4, none⟩ u1) g t #[x0, x1, x2, u0, u1, x5] := by simpa using h0.set_ 4 u1
  simpa using h1.set_ 5 u2
theorem far3 {w : World} {b g i j k : Nat} {t : TypeId} {cs : Array Value} {u0 u1 u2 : Value} (h : Blk w b t cs) (hne : b ≠ g) : Blk (((w.setCell ⟨g, i, none⟩ u0).setCell ⟨g, j, none⟩ u1).setCell ⟨g, k, none⟩ u2) b t cs :=
  ((h.far (p := ⟨g, i, none⟩) hne _).far (p := ⟨g, j, none⟩) hne _).far (p := ⟨g, k, none⟩) hne _
theorem bset3i {w a : World} {g i j k : Nat} {u0 u1 u2 : Value} (h : Below w.heap.size w a) (hg : w.heap.size ≤ g) : Below w.heap.size w (((a.setCell ⟨g, i, none⟩ u0).setCell ⟨g, j, none⟩ u1).setCell ⟨g, k, none⟩ u2) :=
  ((h.setCell hg _).setCell hg _).setCell hg _
theorem mins_at {Bs : List (Nat → Int)} {k : Nat} {B : Nat → Int} (h : Bs[k]? = some B) : (mins Bs)[k]? = some (B 0, B 1, B 2) := by unfold mins; simp [h]
theorem maxs_at {Bs : List (Nat → Int)} {k : Nat} {B : Nat → Int} (h : Bs[k]? = some B) : (maxs Bs)[k]? = some (B 3, B 4, B 5) := by unfold maxs; simp [h]
theorem shright_b {a : Option Addr} {len cap : Nat} {Bs : List (Nat → Int)} {w : World} {b : Bool} (hr : rightBx Bs = b) (row : BRow w a len Bs) :
    Calls Try.prog 9 #[.slice a len cap] w fun e w' => e = .returned (.bool b) ∧ Below w.heap.size w w' :=
  (shright_any a len cap Bs w row).mono fun _ _ ⟨he, hw⟩ => ⟨by rw [he, hr], hw⟩

set_option maxHeartbeats 1000000 in
theorem shjoin_none (a : Option Addr) (cap : Nat) (w : World) :
    Calls Try.prog 7 #[.slice a 0 cap] w fun e w' => e = .returned (.tuple #[.agg #[.int .i64 0, .int .i64 0, .int .i64 0, .int .i64 0, .int .i64 0, .int .i64 0], .int .i64 1]) ∧ Below w.heap.size w w' := by
  go_enter Try.func7, Try.ntmps7
  go_wp2
  exact bodyPost_ret (v := .tuple #[.agg #[.int .i64 0, .int .i64 0, .int .i64 0, .int .i64 0, .int .i64 0, .int .i64 0], .int .i64 1]) (by simp [results, Try.results7, go_sem]) rfl ⟨rfl, alloc_below _ _⟩

set_option maxHeartbeats 1000000 in
theorem shjoin_no (a : Option Addr) (len cap : Nat) (Bs : List (Nat → Int)) (w : World) (hlen : 0 < len) (row : BRow w a len Bs) (h : rightBx Bs = false) :
    Calls Try.prog 7 #[.slice a len cap] w fun e w' => e = .returned (.tuple #[.agg #[.int .i64 0, .int .i64 0, .int .i64 0, .int .i64 0, .int .i64 0, .int .i64 0], .int .i64 1]) ∧ Below w.heap.size w w' := by
  have HRow := Lib.hid row
  have HO := Lib.hid h
  clear row h
  have hne' : ((len : Int) == 0) = false := by simp; omega
  go_enter Try.func7, Try.ntmps7
  go_wp2_with fail
  refine (shright_b HO.out (brow_keep HRow.out (alloc_below _ _))).mono ?_
  rintro e w1 ⟨rfl, b1⟩
  have KR := Lib.hid ((Blk.new w 33 _).keep b1)
  have B1 := Lib.hid (bthen (alloc_below _ _) b1)
  clear b1
  obtain ⟨c0, c1, c2, c3, c4, c5, f0, f1, f2, f3, f4, f5⟩ := blk6 KR.out
  go_wp2
  exact bodyPost_ret (v := .tuple #[.agg #[.int .i64 0, .int .i64 0, .int .i64 0, .int .i64 0, .int .i64 0, .int .i64 0], .int .i64 1]) (by simp [results, Try.results7, go_sem, c0, c1, c2, c3, c4, c5]) rfl ⟨rfl, bset6 B1.out (by omega)⟩

set_option maxHeartbeats 2000000 in
theorem shjoin_far (b off len cap : Nat) (Bs : List (Nat → Int)) (w : World) (hlen : 0 < len) (hcap : len ≤ cap) (hc1 : 1 < cap) (hbig : cap ≤ 9223372036854775807) (row : BRow w (some ⟨b, off, none⟩) len Bs) (h : rightBx Bs = true) :
    Calls Try.prog 7 #[.slice (some ⟨b, off, none⟩) len cap] w fun e w' => e = .returned (.tuple #[.agg #[.int .i64 (joinK Bs 0), .int .i64 (joinK Bs 1), .int .i64 (joinK Bs 2), .int .i64 (joinK Bs 3), .int .i64 (joinK Bs 4), .int .i64 (joinK Bs 5)], .int .i64 0]) ∧ Below w.heap.size w w' := by
  have HL := Lib.hid row.1
  have HRow := Lib.hid row
  have HO := Lib.hid h
  clear row h
  have hne' : ((len : Int) == 0) = false := by simp; omega
  go_enter Try.func7, Try.ntmps7
  go_wp2_with fail
  refine (shright_b HO.out (brow_keep HRow.out (alloc_below _ _))).mono ?_
  rintro e w1 ⟨rfl, b1⟩
  have KR := Lib.hid ((Blk.new w 33 _).keep b1)
  have B1 := Lib.hid (bthen (alloc_below _ _) b1)
  clear b1
  obtain ⟨b', off', B0, he, hv, m0, m1, m2, m3, m4, m5⟩ := (brow_keep HRow.out B1.out).at_ hlen
  obtain ⟨rfl, rfl⟩ : b' = b ∧ off' = off := by simp at he; exact ⟨he.1.symm, he.2.symm⟩
  have HV := Lib.hid hv
  clear hv he
  simp only [Nat.zero_mul, Nat.add_zero] at m0 m1 m2 m3 m4 m5
  go_wp2
  go_loopw [6, 22] (fun _ i wr => ∃ k : Nat, ∃ a0 a1 a2 a3 a4 a5 : Int, k ≤ len - 1 ∧ i = .int .i64 k ∧ pk lessB ((mins Bs).take (k + 1)) = (a0, a1, a2) ∧ pk moreB ((maxs Bs).take (k + 1)) = (a3, a4, a5) ∧ Blk wr w1.heap.size 33 #[.int .i64 a0, .int .i64 a1, .int .i64 a2, .int .i64 a3, .int .i64 a4, .int .i64 a5] ∧ Blk wr w.heap.size 33 #[.int .i64 0, .int .i64 0, .int .i64 0, .int .i64 0, .int .i64 0, .int .i64 0] ∧ Below w.heap.size w wr) (fun _ i _ => len - 1 - (intOf i).toNat)
  case atStart => exact ⟨0, _, _, _, _, _, _, Nat.zero_le _, rfl, pk_one (mins_at HV.out), pk_one (maxs_at HV.out), Blk.new w1 _ _, KR.out.alloc _, balloc B1.out _⟩
  case round =>
    have hne : w.heap.size ≠ w1.heap.size := by have := KR.out.lt; omega
    have hge : w.heap.size ≤ w1.heap.size := B1.out.size
    clear KR B1 m0 m1 m2 m3 m4 m5 HV
    obtain ⟨k, a0, a1, a2, a3, a4, a5, hk, rfl, hp1, hp2, hr, hz, hb⟩ := hrel
    have HP1 := Lib.hid hp1
    have HP2 := Lib.hid hp2
    have HR := Lib.hid hr
    have HZ := Lib.hid hz
    have HB := Lib.hid hb
    clear hp1 hp2 hr hz hb
    by_cases hlt : k < len - 1
    · obtain ⟨b2, off2, B, he, hv, m0, m1, m2, m3, m4, m5⟩ := (brow_keep HRow.out HB.out).at_ (show k + 1 < len by omega)
      obtain ⟨rfl, rfl⟩ : b2 = b' ∧ off2 = off' := by simp at he; exact ⟨he.1.symm, he.2.symm⟩
      have HV := Lib.hid hv
      clear hv he
      rw [show off2 + (k + 1) * 6 = off2 + 6 + k * 6 by omega] at m0 m1 m2 m3 m4 m5
      obtain ⟨p0, p1, p2, hp⟩ : ∃ p0 p1 p2, pk lessB [(a0, a1, a2), (B 0, B 1, B 2)] = (p0, p1, p2) := ⟨_, _, _, rfl⟩
      obtain ⟨q0, q1, q2, hq⟩ : ∃ q0 q1 q2, pk moreB [(a3, a4, a5), (B 3, B 4, B 5)] = (q0, q1, q2) := ⟨_, _, _, rfl⟩
      have HPp := Lib.hid hp
      have HQ := Lib.hid hq
      clear hp hq
      obtain ⟨g0, g1, g2, g3, g4, g5, f0, f1, f2, f3, f4, f5⟩ := blk6 HR.out
      have zr := HR.out.lt
      go_wp2_with fail
      refine (pick_xyz_l _ _ _ p0 p1 p2 HPp.out (vrow2 (blkAt (Blk.new _ _ _) (by simp)))).mono ?_
      rintro e w2 ⟨rfl, c1⟩
      have HR2 := Lib.hid (((HR.out.alloc _).alloc _).keep c1)
      have HE2 := Lib.hid (((Blk.new wr 33 #[.int .i64 (B 0), .int .i64 (B 1), .int .i64 (B 2), .int .i64 (B 3), .int .i64 (B 4), .int .i64 (B 5)]).alloc _).keep c1)
      have HZ2 := Lib.hid (((HZ.out.alloc _).alloc _).keep c1)
      have HB2 := Lib.hid (bthen (balloc (balloc HB.out _) _) c1)
      have hne2 : wr.heap.size ≠ w1.heap.size := by omega
      clear c1 g0 g1 g2 g3 g4 g5 f0 f1 f2 f3 f4 f5 zr m0 m1 m2 m3 m4 m5 HR HZ HB
      obtain ⟨g0, g1, g2, g3, g4, g5, f0, f1, f2, f3, f4, f5⟩ := blk6 HR2.out
      obtain ⟨d0, d1, d2, d3, d4, d5, _⟩ := blk6 HE2.out
      have zr := HR2.out.lt
      have ze := HE2.out.lt
      go_wp2_with fail
      refine (pick_xyz_g _ [(a3, a4, a5), (B 3, B 4, B 5)] _ q0 q1 q2 HQ.out (vrow2 (blkAt (Blk.new _ _ _) (by simp)))).mono ?_
      rintro e w3 ⟨rfl, c2⟩
      have HR3 := Lib.hid (((set6lo HR2.out).alloc _).keep c2)
      have HZ3 := Lib.hid (((far3 HZ2.out hne).alloc _).keep c2)
      have HB3 := Lib.hid (bthen (balloc (bset3i HB2.out hge) _) c2)
      clear c2 g0 g1 g2 g3 g4 g5 f0 f1 f2 f3 f4 f5 d0 d1 d2 d3 d4 d5 zr ze HR2 HE2 HZ2 HB2
      obtain ⟨g0, g1, g2, g3, g4, g5, f0, f1, f2, f3, f4, f5⟩ := blk6 HR3.out
      go_wp2
      go_roundw
      case rel => exact ⟨k + 1, p0, p1, p2, q0, q1, q2, by omega, by go_num, by rw [pk_succ (mins_at HV.out), HP1.out]; exact HPp.out, by rw [pk_succ (maxs_at HV.out), HP2.out]; exact HQ.out, set6hi HR3.out, far3 HZ3.out hne, bset3i HB3.out hge⟩
      case measure => simp [intOf] <;> omega
    · obtain ⟨g0, g1, g2, g3, g4, g5, f0, f1, f2, f3, f4, f5⟩ := blk6 HR.out
      obtain ⟨c0, c1, c2, c3, c4, c5, h0, h1, h2, h3, h4, h5⟩ := blk6 HZ.out
      have e1 : pk lessB (mins Bs) = (a0, a1, a2) := by rw [← HP1.out, pk_all (by unfold mins; rw [List.length_map, HL.out]; omega)]
      have e2 : pk moreB (maxs Bs) = (a3, a4, a5) := by rw [← HP2.out, pk_all (by unfold maxs; rw [List.length_map, HL.out]; omega)]
      have HE1 := Lib.hid e1
      have HE2 := Lib.hid e2
      clear e1 e2
      go_wp2
      have ev : ∀ k, joinK Bs k = if k < 3 then compK k (a0, a1, a2) else compK (k - 3) (a3, a4, a5) := fun k => by unfold joinK; rw [HE1.out, HE2.out]
      exact bodyPost_ret (v := .tuple #[.agg #[.int .i64 a0, .int .i64 a1, .int .i64 a2, .int .i64 a3, .int .i64 a4, .int .i64 a5], .int .i64 0]) (by simp [results, Try.results7, go_sem, c0, c1, c2, c3, c4, c5]) rfl ⟨by rw [ev, ev, ev, ev, ev, ev]; rfl, bset6 HB.out (by omega)⟩

set_option maxHeartbeats 1000000 in
theorem shjoin_near (b off : Nat) (Bs : List (Nat → Int)) (w : World) (row : BRow w (some ⟨b, off, none⟩) 1 Bs) (h : rightBx Bs = true) :
    Calls Try.prog 7 #[.slice (some ⟨b, off, none⟩) 1 1] w fun e w' => e = .returned (.tuple #[.agg #[.int .i64 (joinK Bs 0), .int .i64 (joinK Bs 1), .int .i64 (joinK Bs 2), .int .i64 (joinK Bs 3), .int .i64 (joinK Bs 4), .int .i64 (joinK Bs 5)], .int .i64 0]) ∧ Below w.heap.size w w' := by
  have HL := Lib.hid row.1
  have HRow := Lib.hid row
  have HO := Lib.hid h
  clear row h
  go_enter Try.func7, Try.ntmps7
  go_wp2_with fail
  refine (shright_b HO.out (brow_keep HRow.out (alloc_below _ _))).mono ?_
  rintro e w1 ⟨rfl, b1⟩
  have KR := Lib.hid ((Blk.new w 33 _).keep b1)
  have B1 := Lib.hid (bthen (alloc_below _ _) b1)
  clear b1
  obtain ⟨b', off', B, he, hv, m0, m1, m2, m3, m4, m5⟩ := (brow_keep HRow.out B1.out).at_ (show 0 < 1 by omega)
  obtain ⟨rfl, rfl⟩ : b' = b ∧ off' = off := by simp at he; exact ⟨he.1.symm, he.2.symm⟩
  have e1 : pk lessB (mins Bs) = (B 0, B 1, B 2) := by rw [← pk_all (k := 1) (by unfold mins; rw [List.length_map, HL.out]; omega), pk_one (mins_at hv)]
  have e2 : pk moreB (maxs Bs) = (B 3, B 4, B 5) := by rw [← pk_all (k := 1) (by unfold maxs; rw [List.length_map, HL.out]; omega), pk_one (maxs_at hv)]
  have HE1 := Lib.hid e1
  have HE2 := Lib.hid e2
  clear hv he e1 e2
  simp only [Nat.zero_mul, Nat.add_zero] at m0 m1 m2 m3 m4 m5
  obtain ⟨c0, c1, c2, c3, c4, c5, f0, f1, f2, f3, f4, f5⟩ := blk6 (KR.out.alloc (.cells #[.int .i64 (B 0), .int .i64 (B 1), .int .i64 (B 2), .int .i64 (B 3), .int .i64 (B 4), .int .i64 (B 5)] 33))
  go_wp2
  refine wp_loop_rounds 1 ?_
  rw [rounds_succ]
  go_wp2
  have ev : ∀ k, joinK Bs k = if k < 3 then compK k (B 0, B 1, B 2) else compK (k - 3) (B 3, B 4, B 5) := fun k => by unfold joinK; rw [HE1.out, HE2.out]
  exact bodyPost_ret (v := .tuple #[.agg #[.int .i64 (B 0), .int .i64 (B 1), .int .i64 (B 2), .int .i64 (B 3), .int .i64 (B 4), .int .i64 (B 5)], .int .i64 0]) (by simp [results, Try.results7, go_sem, c0, c1, c2, c3, c4, c5]) rfl ⟨by rw [ev, ev, ev, ev, ev, ev]; rfl, bset6 (balloc B1.out _) (by omega)⟩

theorem shjoin_any (a : Option Addr) (len cap : Nat) (Bs : List (Nat → Int)) (w : World) (hcap : len ≤ cap) (hbig : cap ≤ 9223372036854775807) (row : BRow w a len Bs) :
    Calls Try.prog 7 #[.slice a len cap] w fun e w' => e = .returned (.tuple #[.agg #[.int .i64 (joinV Bs 0), .int .i64 (joinV Bs 1), .int .i64 (joinV Bs 2), .int .i64 (joinV Bs 3), .int .i64 (joinV Bs 4), .int .i64 (joinV Bs 5)], .int .i64 (joinE Bs)]) ∧ Below w.heap.size w w' := by
  by_cases h0 : len = 0
  · subst h0
    obtain rfl := List.eq_nil_of_length_eq_zero row.1
    have hno := join_no (Bs := []) rfl
    rw [hno.1, hno.2, hno.2, hno.2, hno.2, hno.2, hno.2]
    exact shjoin_none a cap w
  · by_cases hr : rightBx Bs = true
    · have hyes := join_yes (Bs := Bs) (by
        unfold joinOk
        rw [hr]
        cases Bs with
        | nil => exact absurd row.1.symm h0
        | cons _ _ => rfl)
      rw [hyes.1, hyes.2, hyes.2, hyes.2, hyes.2, hyes.2, hyes.2]
      obtain ⟨b, off, rfl, _⟩ : ∃ b off, a = some ⟨b, off, none⟩ ∧ True := by
        rcases row.2.2 with h | ⟨b, off, h, _⟩
        · exact absurd h h0
        · exact ⟨b, off, h, trivial⟩
      by_cases h1 : cap = 1
      · subst h1
        obtain rfl : len = 1 := by omega
        exact shjoin_near b off Bs w row hr
      · exact shjoin_far b off len cap Bs w (by omega) hcap (by omega) hbig row hr
    · have hr2 : rightBx Bs = false := by simpa using hr
      have hno := join_no (Bs := Bs) (by unfold joinOk; rw [hr2]; rfl)
      rw [hno.1, hno.2, hno.2, hno.2, hno.2, hno.2, hno.2]
      exact shjoin_no a len cap Bs w (by omega) row hr2

end Go.Proofs.Ythdgldoailjhhaa
