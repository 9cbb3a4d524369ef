/-
  ViewLeft answers true for every view, record and vector: what has, in its box, a vector that no side has behind it, and a bit in common, is seen, unless something runs over; no vector in it is less far from the eye than its depth. No conditions.
-/
import Derived.Test.YtiognhmjadiooaaRows
import Derived.Test.YtiognhmjadiooaaMV11
import Derived.Test.YtiognhmjadiooaaMV13
import Derived.WalkKit
import Derived.ProofKit
import Derived.OpenShut
import Derived.ChangeOld
import Derived.Below
import Derived.Deep.Slices
import Derived.Laws.IdiomArrays
namespace Go.Proofs.Ytiognhmjadiooaa.viewLeft
open Go.ChangeShapes Go.WideShapes Go.ChangeAt Go.RowKit Go.Deep
set_option linter.unusedVariables false
theorem own : ownKnob Try.prog.godebug = none := by kernel_rfl
theorem laidOut : laidOutB Try.prog = true := by kernel_rfl
theorem rc12 {w : World} {g : Nat} {t : TypeId} {z0 z1 z2 z3 z4 z5 x0 x1 x2 x3 x4 x5 : Value} (h : Blk w g t #[z0, z1, z2, z3, z4, z5, x0, x1, x2, x3, x4, x5]) : w.cell? ⟨g, 0, none⟩ = some z0 ∧ w.cell? ⟨g, 1, none⟩ = some z1 ∧ w.cell? ⟨g, 2, none⟩ = some z2 ∧ w.cell? ⟨g, 3, none⟩ = some z3 ∧ w.cell? ⟨g, 4, none⟩ = some z4 ∧ w.cell? ⟨g, 5, none⟩ = some z5 ∧ w.cell? ⟨g, 6, none⟩ = some x0 ∧ w.cell? ⟨g, 7, none⟩ = some x1 ∧ w.cell? ⟨g, 8, none⟩ = some x2 ∧ w.cell? ⟨g, 9, none⟩ = some x3 ∧ w.cell? ⟨g, 10, none⟩ = some x4 ∧ w.cell? ⟨g, 11, none⟩ = some x5 ∧ g < w.heap.size :=
  ⟨h.cell 0, h.cell 1, h.cell 2, h.cell 3, h.cell 4, h.cell 5, h.cell 6, h.cell 7, h.cell 8, h.cell 9, h.cell 10, h.cell 11, h.lt⟩
def boxR (r : Rc) : Nat → Int
  | 0 => r.x0
  | 1 => r.x1
  | 2 => r.x2
  | 3 => r.x3
  | 4 => r.x4
  | _ => r.x5
def anyT (X : List (Nat → Int)) (V : Nat → Int) (k : Nat) : Bool := (X.take k).any (fun P => decide (disV P V < 0))
theorem anyT_succ {X : List (Nat → Int)} {V : Nat → Int} {k : Nat} {P : Nat → Int} (h : X[k]? = some P) : anyT X V (k + 1) = (anyT X V k || decide (disV P V < 0)) := by
  unfold anyT
  rw [List.take_add_one, h, List.any_append]
  simp
theorem all_succ {X : List (Nat → Int)} {V : Nat → Int} {k : Nat} {P : Nat → Int} (h : X[k]? = some P) (h1 : ∀ Q ∈ X.take k, disE Q V = 0) (h2 : disE P V = 0) : ∀ Q ∈ X.take (k + 1), disE Q V = 0 := by
  intro Q hQ
  rw [List.take_add_one, h] at hQ
  rcases List.mem_append.1 hQ with q | q
  · exact h1 Q q
  · simp at q
    rw [q]; exact h2
theorem none_behind {X : List (Nat → Int)} {V : Nat → Int} {n : Nat} (hn : X.length = n) (h : anyT X V n = false) : ∀ P ∈ X, 0 ≤ disV P V := by
  intro P hP
  unfold anyT at h
  rw [take_all hn, List.any_eq_false] at h
  have := h P hP
  simp at this
  exact this
set_option maxHeartbeats 16000000 in
set_option maxRecDepth 10000 in
theorem walk (a : Option Addr) (len cap : Nat) (X : List (Nat → Int)) (E : Nat → Int) (m : Int) (z0 z1 z2 z3 z4 : Value) (ly : Int) (C V : Nat → Int) (w : World) (row : PlRow w a len X) :
    Calls Try.prog 4 #[.agg #[.slice a len cap, .int .i64 (E 0), .int .i64 (E 1), .int .i64 (E 2), .int .i64 (E 3), .int .i64 m], .agg #[z0, z1, z2, z3, z4, .int .i64 ly, .int .i64 (C 0), .int .i64 (C 1), .int .i64 (C 2), .int .i64 (C 3), .int .i64 (C 4), .int .i64 (C 5)], .agg #[.int .i64 (V 0), .int .i64 (V 1), .int .i64 (V 2)]] w fun e w' => e = .returned (.bool true) ∧ Below w.heap.size w w' := by
  have hbig := row.2.1
  have hbel := balloc (balloc (alloc_below w (.cells #[.slice a len cap, .int .i64 (E 0), .int .i64 (E 1), .int .i64 (E 2), .int .i64 (E 3), .int .i64 m] 29)) (.cells #[z0, z1, z2, z3, z4, .int .i64 ly, .int .i64 (C 0), .int .i64 (C 1), .int .i64 (C 2), .int .i64 (C 3), .int .i64 (C 4), .int .i64 (C 5)] 35)) (.cells #[.int .i64 (V 0), .int .i64 (V 1), .int .i64 (V 2)] 25)
  have HLn := Lib.hid row.1
  have HBel := Lib.hid hbel
  have HRow := Lib.hid (row.keep hbel)
  have K := Lib.hid (((Blk.new w 29 #[.slice a len cap, .int .i64 (E 0), .int .i64 (E 1), .int .i64 (E 2), .int .i64 (E 3), .int .i64 m]).alloc (.cells #[z0, z1, z2, z3, z4, .int .i64 ly, .int .i64 (C 0), .int .i64 (C 1), .int .i64 (C 2), .int .i64 (C 3), .int .i64 (C 4), .int .i64 (C 5)] 35)).alloc (.cells #[.int .i64 (V 0), .int .i64 (V 1), .int .i64 (V 2)] 25))
  have K' := Lib.hid ((blkAt (Blk.new (w.alloc (.cells #[.slice a len cap, .int .i64 (E 0), .int .i64 (E 1), .int .i64 (E 2), .int .i64 (E 3), .int .i64 m] 29)) 35 #[z0, z1, z2, z3, z4, .int .i64 ly, .int .i64 (C 0), .int .i64 (C 1), .int .i64 (C 2), .int .i64 (C 3), .int .i64 (C 4), .int .i64 (C 5)]) (g' := w.heap.size + 1) (by simp)).alloc (.cells #[.int .i64 (V 0), .int .i64 (V 1), .int .i64 (V 2)] 25))
  have KV := Lib.hid (blkAt (Blk.new ((w.alloc (.cells #[.slice a len cap, .int .i64 (E 0), .int .i64 (E 1), .int .i64 (E 2), .int .i64 (E 3), .int .i64 m] 29)).alloc (.cells #[z0, z1, z2, z3, z4, .int .i64 ly, .int .i64 (C 0), .int .i64 (C 1), .int .i64 (C 2), .int .i64 (C 3), .int .i64 (C 4), .int .i64 (C 5)] 35)) 25 #[.int .i64 (V 0), .int .i64 (V 1), .int .i64 (V 2)]) (g' := w.heap.size + 1 + 1) (by simp))
  have HIn := rin_any C V
  have HDi : Hid (∀ (P : Nat → Int) w', Calls Try.prog 18 #[.agg #[.int .i64 (P 0), .int .i64 (P 1), .int .i64 (P 2), .int .i64 (P 3)], .agg #[.int .i64 (V 0), .int .i64 (V 1), .int .i64 (V 2)]] w' fun e w'' => e = .returned (.tuple #[.int .i64 (disV P V), .int .i64 (disE P V)]) ∧ Below w'.heap.size w' w'') := Lib.hid (fun P w' => rdist_any P V w')
  obtain ⟨t1, t2, t3, hT⟩ : ∃ t1 t2 t3, seeT ⟨X, E, m⟩ ly C = (t1, t2, t3) := ⟨_, _, _, rfl⟩
  have HSe : Hid (∀ w', PlRow w' a len X → Calls Try.prog 7 #[.agg #[.slice a len cap, .int .i64 (E 0), .int .i64 (E 1), .int .i64 (E 2), .int .i64 (E 3), .int .i64 m], .agg #[z0, z1, z2, z3, z4, .int .i64 ly, .int .i64 (C 0), .int .i64 (C 1), .int .i64 (C 2), .int .i64 (C 3), .int .i64 (C 4), .int .i64 (C 5)]] w' fun e w'' => e = .returned (.tuple #[.int .i64 t1, .bool t2, .int .i64 t3]) ∧ Below w'.heap.size w' w'') := Lib.hid (fun w' row' => by
    have q := sees_any a len cap X E m z0 z1 z2 z3 z4 ly C w' row'
    rw [hT] at q
    exact q)
  have HEr : Hid (t3 ≠ 0 → t2 = false) := Lib.hid (fun h => by have := see_err (v := ⟨X, E, m⟩) (ly := ly) (B := C) (by rw [hT]; exact h); rw [hT] at this; exact this)
  have HLf : Hid (inBox C V = true → (∀ P ∈ X, disE P V = 0) → t3 = 0 → (∀ P ∈ X, 0 ≤ disV P V) → t2 = (bits .and .i64 m ly != 0)) := Lib.hid (fun hin h0 h1 h2 => by have := see_left (v := ⟨X, E, m⟩) (ly := ly) hin h0 (by rw [hT]; exact h1) h2; rw [hT] at this; exact this)
  have HDp : Hid (inBox C V = true → t2 = true → disE E V = 0 → t1 ≤ disV E V) := Lib.hid (fun hin h0 h1 => by have := see_deep (v := ⟨X, E, m⟩) (ly := ly) hin (by rw [hT]; exact h0) h1; rw [hT] at this; exact this)
  obtain ⟨b1, hb1⟩ : ∃ b1, b1 = inBox C V := ⟨_, rfl⟩
  rw [← hb1] at HLf HDp HIn
  have HIn := Lib.hid HIn
  clear row hbel hT hb1
  go_enter Try.func4, Try.ntmps4
  go_wp2_with fail
  refine (HIn.out _).mono ?_
  rintro e w1 ⟨rfl, q1⟩
  replace K := Lib.hid (K.out.keep q1)
  replace K' := Lib.hid (K'.out.keep q1)
  replace KV := Lib.hid (KV.out.keep q1)
  replace HRow := Lib.hid (HRow.out.keep q1)
  replace HBel := Lib.hid (bthen HBel.out q1)
  clear q1 HIn
  obtain ⟨c0, c1, c2, c3, c4, c5, y⟩ := vblk K.out
  by_cases h60 : 60 < len
  · have h60' : (60 : Int) < (len : Int) := by omega
    go_wp2_with fail
    refine (alive14_any _).mono ?_
    rintro e w2 ⟨rfl, q2⟩
    have HB2 := Lib.hid (bthen HBel.out q2)
    clear q2
    go_wp2
    go_ret
    exact ⟨rfl, HB2.out⟩
  · have h60' : ¬ (60 : Int) < (len : Int) := by omega
    cases b1
    · go_wp2_with fail
      refine (alive14_any _).mono ?_
      rintro e w2 ⟨rfl, q2⟩
      have HB2 := Lib.hid (bthen HBel.out q2)
      clear q2
      go_wp2
      go_ret
      exact ⟨rfl, HB2.out⟩
    · replace HLf := Lib.hid (HLf.out rfl)
      replace HDp := Lib.hid (HDp.out rfl)
      clear h60
      go_wp2
      clear c0 c1 c2 c3 c4 c5 y h60'
      go_loopw [8, 9, 10, 11] (fun bv i _ _ wr => ∃ k : Nat, k ≤ len ∧ i = .int .i64 k ∧ bv = .bool (anyT X V k) ∧ (∀ Q ∈ X.take k, disE Q V = 0) ∧ Below w1.heap.size w1 wr) (fun _ i _ _ _ => len - (ivl i).toNat)
      case atStart => exact ⟨0, Nat.zero_le _, rfl, rfl, (fun Q hQ => by simp at hQ), Below.refl _ _⟩
      case round =>
        obtain ⟨k, hk, rfl, rfl, hal, hb⟩ := hrel
        have HAl := Lib.hid hal
        have HB := Lib.hid hb
        clear hal hb
        obtain ⟨c0, c1, c2, c3, c4, c5, y⟩ := vblk (K.out.keep HB.out)
        obtain ⟨v0, v1, v2, _, _, _⟩ := blk3 (KV.out.keep HB.out)
        by_cases hlt : k < len
        · have hk0 : (0 : Int) ≤ (k : Int) := by omega
          have hk1 : (k : Int) < (len : Int) := by omega
          obtain ⟨b, off, P, rfl, hbl, hx, hv⟩ := HRow.out.at_ hlt
          obtain ⟨m0, m1, m2, m3⟩ := pl_cells (range_same hv (HB.out.block b hbl))
          have HS1 := Lib.hid (anyT_succ (V := V) hx)
          have HS2 := Lib.hid (all_succ (V := V) hx HAl.out)
          have HC := HDi.out P
          obtain ⟨dv, hdv⟩ : ∃ dv, dv = disV P V := ⟨_, rfl⟩
          obtain ⟨de, hde⟩ : ∃ de, de = disE P V := ⟨_, rfl⟩
          obtain ⟨bh, hbh⟩ : ∃ bh, bh = anyT X V k := ⟨_, rfl⟩
          rw [← hdv, ← hde] at HC
          rw [← hdv, ← hbh] at HS1
          rw [← hde] at HS2
          rw [← hbh]
          have HC0 := Lib.hid HC
          clear hv hx hbl hdv hde hbh HC
          have HS : Hid (∀ w', Below wr.heap.size wr w' → (w'.cell? ⟨w.heap.size, 0, none⟩ = some (.slice (some ⟨b, off, none⟩) len cap) ∧ w'.cell? ⟨b, off + k * 4, none⟩ = some (.int .i64 (P 0)) ∧ w'.cell? ⟨b, off + k * 4 + 1, none⟩ = some (.int .i64 (P 1)) ∧ w'.cell? ⟨b, off + k * 4 + 2, none⟩ = some (.int .i64 (P 2)) ∧ w'.cell? ⟨b, off + k * 4 + 3, none⟩ = some (.int .i64 (P 3)) ∧ w'.cell? ⟨w.heap.size + 1 + 1, 0, none⟩ = some (.int .i64 (V 0)) ∧ w'.cell? ⟨w.heap.size + 1 + 1, 1, none⟩ = some (.int .i64 (V 1)) ∧ w'.cell? ⟨w.heap.size + 1 + 1, 2, none⟩ = some (.int .i64 (V 2)))) := Lib.hid (fun w' hb => ⟨cell_keep c0 hb, cell_keep m0 hb, cell_keep m1 hb, cell_keep m2 hb, cell_keep m3 hb, cell_keep v0 hb, cell_keep v1 hb, cell_keep v2 hb⟩)
          go_wp2
          go_region_held3 (fun w' => w'.cell? ⟨w.heap.size, 0, none⟩ = some (.slice (some ⟨b, off, none⟩) len cap) ∧ w'.cell? ⟨b, off + k * 4, none⟩ = some (.int .i64 (P 0)) ∧ w'.cell? ⟨b, off + k * 4 + 1, none⟩ = some (.int .i64 (P 1)) ∧ w'.cell? ⟨b, off + k * 4 + 2, none⟩ = some (.int .i64 (P 2)) ∧ w'.cell? ⟨b, off + k * 4 + 3, none⟩ = some (.int .i64 (P 3)) ∧ w'.cell? ⟨w.heap.size + 1 + 1, 0, none⟩ = some (.int .i64 (V 0)) ∧ w'.cell? ⟨w.heap.size + 1 + 1, 1, none⟩ = some (.int .i64 (V 1)) ∧ w'.cell? ⟨w.heap.size + 1 + 1, 2, none⟩ = some (.int .i64 (V 2))) (first | exact HS.out _ (bdrewn (Below.refl _ _)) | exact HS.out _ (bdrew c9))
            (first | (go_at_call 18; refine (HC0.out _).mono ?_; rintro e w2 ⟨rfl, c9⟩))
          have B2 := Lib.hid (bthen HB.out (bdrew c9))
          clear m0 m1 m2 m3 c0 c1 c2 c3 c4 c5 y v0 v1 v2 c9 HS HC0
          by_cases he : de = 0
          · subst he
            replace HS2 := Lib.hid (HS2.out rfl)
            cases bh
            · by_cases hh : dv < 0
              · have HG : Hid (anyT X V (k + 1) = true) := Lib.hid (by rw [HS1.out, decide_eq_true hh]; rfl)
                go_wp2
                go_roundw
                case rel => exact ⟨k + 1, by omega, by go_num, by rw [HG.out], HS2.out, B2.out⟩
                case measure => simp [ivl] <;> omega
              · have HG : Hid (anyT X V (k + 1) = false) := Lib.hid (by rw [HS1.out, decide_eq_false hh]; rfl)
                go_wp2
                go_roundw
                case rel => exact ⟨k + 1, by omega, by go_num, by rw [HG.out], HS2.out, B2.out⟩
                case measure => simp [ivl] <;> omega
            · have HG : Hid (anyT X V (k + 1) = true) := Lib.hid (by rw [HS1.out]; rfl)
              go_wp2
              go_roundw
              case rel => exact ⟨k + 1, by omega, by go_num, by rw [HG.out], HS2.out, B2.out⟩
              case measure => simp [ivl] <;> omega
          · go_wp2_with fail
            refine (alive14_any _).mono ?_
            rintro e w3 ⟨rfl, q3⟩
            have HB3 := Lib.hid (bthen HBel.out (bthen B2.out q3))
            clear q3
            go_wp2
            go_ret
            exact ⟨rfl, HB3.out⟩
        · obtain rfl : k = len := by omega
          have HAl2 : Hid (∀ Q ∈ X, disE Q V = 0) := Lib.hid (fun Q hQ => HAl.out Q (by rw [take_all HLn.out]; exact hQ))
          have HNb := Lib.hid (none_behind (V := V) HLn.out)
          obtain ⟨bh, hbh⟩ : ∃ bh, bh = anyT X V k := ⟨_, rfl⟩
          rw [← hbh] at HNb ⊢
          clear hbh v0 v1 v2
          have HRow2 := Lib.hid (HRow.out.keep HB.out)
          have K2 := Lib.hid (K.out.keep HB.out)
          have K2' := Lib.hid (K'.out.keep HB.out)
          have KV2 := Lib.hid (KV.out.keep HB.out)
          have HB2 := Lib.hid (bthen HBel.out HB.out)
          clear K K' KV HRow HBel HAl
          obtain ⟨d0, d1, d2, d3, d4, d5, d6, d7, d8, d9, d10, d11, y'⟩ := rc12 K2'.out
          go_wp2_with fail
          refine (HSe.out _ HRow2.out).mono ?_
          rintro e w4 ⟨rfl, q4⟩
          have K4 := Lib.hid (K2.out.keep q4)
          have K4' := Lib.hid (K2'.out.keep q4)
          have KV4 := Lib.hid (KV2.out.keep q4)
          have HB4 := Lib.hid (bthen HB2.out q4)
          clear q4 c0 c1 c2 c3 c4 c5 y d0 d1 d2 d3 d4 d5 d6 d7 d8 d9 d10 d11 y' K2 K2' KV2 HB2 HB HSe HRow2
          by_cases h3 : t3 = 0
          · have HLg := Lib.hid (HLf.out HAl2.out h3)
            subst h3
            clear HEr HLf
            obtain ⟨c0, c1, c2, c3, c4, c5, y⟩ := vblk K4.out
            obtain ⟨d0, d1, d2, d3, d4, d5, d6, d7, d8, d9, d10, d11, y'⟩ := rc12 K4'.out
            obtain ⟨v0, v1, v2, _, _, _⟩ := blk3 KV4.out
            have y'' := KV4.out.lt
            cases bh
            · have h2 := HLg.out (HNb.out rfl)
              obtain ⟨mz, hmz⟩ : ∃ mz, bits .and .i64 m ly = mz := ⟨_, rfl⟩
              rw [hmz] at h2
              clear HLg HNb
              obtain ⟨q, hq⟩ : ∃ q, q = (mz != 0) := ⟨_, rfl⟩
              have hq' : (mz != 0) = q := hq.symm
              rw [← hq] at h2
              subst h2
              clear hq
              cases t2
              · go_wp2_with fail
                refine (HDi.out E _).mono ?_
                rintro e w5 ⟨rfl, q5⟩
                have HB5 := Lib.hid (bthen HB4.out q5)
                clear q5
                obtain ⟨x, hx⟩ : ∃ x, x = disV E V := ⟨_, rfl⟩
                obtain ⟨f, hff⟩ : ∃ f, f = disE E V := ⟨_, rfl⟩
                try rw [← hx, ← hff] at HDp
                rw [← hx, ← hff]
                clear hx hff HDi
                go_wp2_with fail
                refine (alive14_any _).mono ?_
                rintro e w6 ⟨rfl, q6⟩
                have HB6 := Lib.hid (bthen HB5.out q6)
                clear q6
                go_wp2
                go_ret
                exact ⟨rfl, HB6.out⟩
              · replace HDp := Lib.hid (HDp.out rfl)
                go_wp2_with fail
                refine (HDi.out E _).mono ?_
                rintro e w5 ⟨rfl, q5⟩
                have HB5 := Lib.hid (bthen HB4.out q5)
                clear q5
                obtain ⟨x, hx⟩ : ∃ x, x = disV E V := ⟨_, rfl⟩
                obtain ⟨f, hff⟩ : ∃ f, f = disE E V := ⟨_, rfl⟩
                try rw [← hx, ← hff] at HDp
                rw [← hx, ← hff]
                clear hx hff HDi
                go_wp2_with fail
                refine (alive14_any _).mono ?_
                rintro e w6 ⟨rfl, q6⟩
                have HB6 := Lib.hid (bthen HB5.out q6)
                clear q6
                by_cases hf : f = 0
                · have hd := HDp.out hf
                  subst hf
                  clear HDp
                  go_wp2
                  go_ret
                  exact ⟨by first | rfl | (simp; omega), HB6.out⟩
                · go_wp2
                  go_ret
                  exact ⟨rfl, HB6.out⟩
            · clear HLg HNb
              cases t2
              · go_wp2_with fail
                refine (HDi.out E _).mono ?_
                rintro e w5 ⟨rfl, q5⟩
                have HB5 := Lib.hid (bthen HB4.out q5)
                clear q5
                obtain ⟨x, hx⟩ : ∃ x, x = disV E V := ⟨_, rfl⟩
                obtain ⟨f, hff⟩ : ∃ f, f = disE E V := ⟨_, rfl⟩
                try rw [← hx, ← hff] at HDp
                rw [← hx, ← hff]
                clear hx hff HDi
                go_wp2_with fail
                refine (alive14_any _).mono ?_
                rintro e w6 ⟨rfl, q6⟩
                have HB6 := Lib.hid (bthen HB5.out q6)
                clear q6
                go_wp2
                go_ret
                exact ⟨rfl, HB6.out⟩
              · replace HDp := Lib.hid (HDp.out rfl)
                go_wp2_with fail
                refine (HDi.out E _).mono ?_
                rintro e w5 ⟨rfl, q5⟩
                have HB5 := Lib.hid (bthen HB4.out q5)
                clear q5
                obtain ⟨x, hx⟩ : ∃ x, x = disV E V := ⟨_, rfl⟩
                obtain ⟨f, hff⟩ : ∃ f, f = disE E V := ⟨_, rfl⟩
                try rw [← hx, ← hff] at HDp
                rw [← hx, ← hff]
                clear hx hff HDi
                go_wp2_with fail
                refine (alive14_any _).mono ?_
                rintro e w6 ⟨rfl, q6⟩
                have HB6 := Lib.hid (bthen HB5.out q6)
                clear q6
                by_cases hf : f = 0
                · have hd := HDp.out hf
                  subst hf
                  clear HDp
                  go_wp2
                  go_ret
                  exact ⟨by first | rfl | (simp; omega), HB6.out⟩
                · go_wp2
                  go_ret
                  exact ⟨rfl, HB6.out⟩
          · have h2 := HEr.out h3
            subst h2
            clear HEr HLf HDp
            go_wp2_with fail
            refine (alive14_any _).mono ?_
            rintro e w5 ⟨rfl, q5⟩
            have HB5 := Lib.hid (bthen HB4.out q5)
            clear q5
            go_wp2
            go_ret
            exact ⟨rfl, HB5.out⟩
set_option maxRecDepth 100000 in
theorem lifted (os : Os) (started : os.Started) (H : Type) (enc : TypeId × Value → H) :
    ReturnsInHanded {} Try.checked os 4 .any (Rows.viewLeftSpec.pre6 enc Try.prog Try.f4 Rows.viewLeftRow.domain false) (Rows.viewLeftSpec.post enc Try.prog Try.f4 false true false false) := by
  refine returnsInHanded_of_change (C := Try.checked) own started (by kernel_rfl) Try.func4
    (ChangeSpec.witness6 (enc := enc) (C := Try.checked) false ⟨#[], #[.agg #[.slice none 0 0, .int .i64 0, .int .i64 0, .int .i64 0, .int .i64 0, .int .i64 0], .agg (cRc zRc).toArray, .agg #[.int .i64 0, .int .i64 0, .int .i64 0]], []⟩ 8 (by kernel_rfl) (by kernel_rfl) (by kernel_rfl) (by kernel_rfl)) ?_
  intro W base args ds gs before hval0 hW hcnd _
  have hval : ∀ (j : Nat) t v, Try.f4.params[j]? = some t → args[j]? = some v → Value.okWide Try.prog W .any base t v := hval0
  have hW' := hW
  obtain ⟨p, q, hA0, hV, rfl, hfz, hnd⟩ := hW
  have hA : DataW.TrodAll enc Try.prog W 0 (fun _ => true) true Try.f4.params.toList args.toList ds p := hA0
  rw [Try.params4] at hA hval
  obtain ⟨v0, vs0, d0, ds0, p0, q0, hargs, rfl, rfl, h0, r0⟩ := trodAll_cons hA
  obtain ⟨v1, vs1, d1, ds1, p1, q1, rfl, rfl, rfl, h1, r1⟩ := trodAll_cons r0
  obtain ⟨v2, vs2, d2, ds2, p2, q2, rfl, rfl, rfl, h2, r2⟩ := trodAll_cons r1
  obtain ⟨rfl, rfl, rfl⟩ := trodAll_nil r2
  obtain rfl : args = #[v0, v1, v2] := by cases args; simp_all
  obtain ⟨rfl, rfl⟩ := trodVars_none hV
  have k0 := h0
  have lt0 : ∀ x ∈ p0, x.block < W.heap.size := by obtain ⟨m, hm⟩ := k0; exact DataW.trod_lt m _ _ _ hm
  obtain ⟨a0, len0, cap0, X0, E0, m0, rfl, row0, hc0, hm0⟩ := open_view (hval 0 29 v0 rfl rfl) h0
  have k1 := h1
  have lt1 : ∀ x ∈ p1, x.block < W.heap.size := by obtain ⟨m, hm⟩ := k1; exact DataW.trod_lt m _ _ _ hm
  obtain ⟨x1, rfl⟩ := open_rec (hval 1 35 v1 rfl rfl) h1
  have k2 := h2
  have lt2 : ∀ x ∈ p2, x.block < W.heap.size := by obtain ⟨m, hm⟩ := k2; exact DataW.trod_lt m _ _ _ hm
  obtain ⟨V2, rfl⟩ := open_vec3 (hval 2 25 v2 rfl rfl) h2
  clear hA0 hval0
  refine (walk a0 len0 cap0 X0 E0 m0 (.int .i64 x1.id) (.int .i64 x1.ms) (.int .i64 x1.pp) (.int .i64 x1.mt) (.bool x1.cl) x1.ly (boxR x1) V2 W row0).mono fun e W' ⟨he, bel⟩ => ?_
  subst he
  exact ⟨_, rfl, _, _, _, [], _, [], hW', trodAll_mk1 (shut_bool Try.underlying4 _), (trodAll_cons_mk (Below.trod laidOut (by kernel_rfl) (of_decide_eq_true (by kernel_rfl)) k0 bel lt0) (trodAll_cons_mk (Below.trod laidOut (by kernel_rfl) (of_decide_eq_true (by kernel_rfl)) k1 bel lt1) (trodAll_cons_mk (Below.trod laidOut (by kernel_rfl) (of_decide_eq_true (by kernel_rfl)) k2 bel lt2) trodAll_mk0))), rfl, bel.frame _, fun h => by cases h⟩

theorem over : Rows.viewLeftRow.holds Try.pinned (OpenSpec.ofChange Rows.viewLeftSpec) :=
  OpenClaim.holds_of_wide 4 Try.f4 rfl rfl rfl rfl rfl rfl rfl ⟨rfl, rfl, rfl, rfl, rfl⟩ rfl rfl rfl rfl rfl (by kernel_rfl) Try.func4 (by kernel_rfl)
    (of_decide_eq_true (by kernel_rfl)) (by unfold Func.isWrapper; first | (rw [if_pos (by decide +kernel)]; kernel_rfl) | (rw [if_neg (by decide +kernel)]; exact ⟨rfl, rfl⟩))
    (fun os started H enc _ => lifted os started H enc)

end Go.Proofs.Ytiognhmjadiooaa.viewLeft
namespace Go.Proofs.Ytiognhmjadiooaa
theorem viewLeft_holds : Rows.ViewLeftSaid := viewLeft.over
#print axioms viewLeft_holds
end Go.Proofs.Ytiognhmjadiooaa
