/-
  14 texts in one file, each with its own heading.
-/
import Derived.Test.YtdndafdninnjfaaGreatMVec
import Derived.WalkKit
import Derived.ProofKit
import Derived.OpenShut
import Derived.Deep.Slices
import Derived.Laws.IdiomArrays
/-
  Matrices as functions of the place: blocks, rows and slices of them; where a row's number stands; whether matrices may be.
-/
namespace Go.Proofs.YtdndafdninnjfaaGreat
open Go.RowKit

/-- a block of twelve cells, for the walk -/
theorem blk12 {w : World} {g : Nat} {t : TypeId} {x0 x1 x2 x3 x4 x5 x6 x7 x8 x9 x10 x11 : Value} (h : Blk w g t #[x0, x1, x2, x3, x4, x5, x6, x7, x8, x9, x10, x11]) : w.cell? ⟨g, 0, none⟩ = some x0 ∧ w.cell? ⟨g, 1, none⟩ = some x1 ∧ w.cell? ⟨g, 2, none⟩ = some x2 ∧ w.cell? ⟨g, 3, none⟩ = some x3 ∧ w.cell? ⟨g, 4, none⟩ = some x4 ∧ w.cell? ⟨g, 5, none⟩ = some x5 ∧ w.cell? ⟨g, 6, none⟩ = some x6 ∧ w.cell? ⟨g, 7, none⟩ = some x7 ∧ w.cell? ⟨g, 8, none⟩ = some x8 ∧ w.cell? ⟨g, 9, none⟩ = some x9 ∧ w.cell? ⟨g, 10, none⟩ = some x10 ∧ w.cell? ⟨g, 11, none⟩ = some x11 ∧ w.frozen? ⟨g, 0, none⟩ = false ∧ w.frozen? ⟨g, 1, none⟩ = false ∧ w.frozen? ⟨g, 2, none⟩ = false ∧ w.frozen? ⟨g, 3, none⟩ = false ∧ w.frozen? ⟨g, 4, none⟩ = false ∧ w.frozen? ⟨g, 5, none⟩ = false ∧ w.frozen? ⟨g, 6, none⟩ = false ∧ w.frozen? ⟨g, 7, none⟩ = false ∧ w.frozen? ⟨g, 8, none⟩ = false ∧ w.frozen? ⟨g, 9, none⟩ = false ∧ w.frozen? ⟨g, 10, none⟩ = false ∧ w.frozen? ⟨g, 11, none⟩ = false :=
  ⟨h.cell 0, h.cell 1, h.cell 2, h.cell 3, h.cell 4, h.cell 5, h.cell 6, h.cell 7, h.cell 8, h.cell 9, h.cell 10, h.cell 11, h.frozen 0, h.frozen 1, h.frozen 2, h.frozen 3, h.frozen 4, h.frozen 5, h.frozen 6, h.frozen 7, h.frozen 8, h.frozen 9, h.frozen 10, h.frozen 11⟩
theorem bset12 {w a : World} {g : Nat} {u0 u1 u2 u3 u4 u5 u6 u7 u8 u9 u10 u11 : Value} (h : Below w.heap.size w a) (hg : w.heap.size ≤ g) : Below w.heap.size w ((((((((((((a.setCell ⟨g, 0, none⟩ u0).setCell ⟨g, 1, none⟩ u1).setCell ⟨g, 2, none⟩ u2).setCell ⟨g, 3, none⟩ u3).setCell ⟨g, 4, none⟩ u4).setCell ⟨g, 5, none⟩ u5).setCell ⟨g, 6, none⟩ u6).setCell ⟨g, 7, none⟩ u7).setCell ⟨g, 8, none⟩ u8).setCell ⟨g, 9, none⟩ u9).setCell ⟨g, 10, none⟩ u10).setCell ⟨g, 11, none⟩ u11) := ((((((((((((h.setCell hg _).setCell hg _).setCell hg _).setCell hg _).setCell hg _).setCell hg _).setCell hg _).setCell hg _).setCell hg _).setCell hg _).setCell hg _).setCell hg _)
theorem lt12 {k : Nat} (hk : k < 12) : k = 0 ∨ k = 1 ∨ k = 2 ∨ k = 3 ∨ k = 4 ∨ k = 5 ∨ k = 6 ∨ k = 7 ∨ k = 8 ∨ k = 9 ∨ k = 10 ∨ k = 11 := by omega
theorem Blk.at12 {w : World} {g : Nat} {t : TypeId} {M : Nat → Int} (h : Blk w g t #[.int .i64 (M 0), .int .i64 (M 1), .int .i64 (M 2), .int .i64 (M 3), .int .i64 (M 4), .int .i64 (M 5), .int .i64 (M 6), .int .i64 (M 7), .int .i64 (M 8), .int .i64 (M 9), .int .i64 (M 10), .int .i64 (M 11)]) {k : Nat} (hk : k < 12) : w.cell? ⟨g, k, none⟩ = some (.int .i64 (M k)) := by
  rcases lt12 hk with rfl | rfl | rfl | rfl | rfl | rfl | rfl | rfl | rfl | rfl | rfl | rfl
  · exact h.cell 0
  · exact h.cell 1
  · exact h.cell 2
  · exact h.cell 3
  · exact h.cell 4
  · exact h.cell 5
  · exact h.cell 6
  · exact h.cell 7
  · exact h.cell 8
  · exact h.cell 9
  · exact h.cell 10
  · exact h.cell 11
theorem Blk.at3 {w : World} {g : Nat} {t : TypeId} {M : Nat → Int} (h : Blk w g t #[.int .i64 (M 0), .int .i64 (M 1), .int .i64 (M 2)]) {k : Nat} (hk : k < 3) : w.cell? ⟨g, k, none⟩ = some (.int .i64 (M k)) := by
  obtain rfl | rfl | rfl : k = 0 ∨ k = 1 ∨ k = 2 := by omega
  · exact h.cell 0
  · exact h.cell 1
  · exact h.cell 2
/-- a block that holds a matrix -/
def BM (w : World) (g : Nat) (M : Nat → Int) : Prop := Blk w g 46 #[.int .i64 (M 0), .int .i64 (M 1), .int .i64 (M 2), .int .i64 (M 3), .int .i64 (M 4), .int .i64 (M 5), .int .i64 (M 6), .int .i64 (M 7), .int .i64 (M 8), .int .i64 (M 9), .int .i64 (M 10), .int .i64 (M 11)]
/-- a block that holds a vector -/
def BV3 (w : World) (g : Nat) (V : Nat → Int) : Prop := Blk w g 56 #[.int .i64 (V 0), .int .i64 (V 1), .int .i64 (V 2)]
def zeroM : Nat → Int := fun _ => 0
def okM (M : Nat → Int) : Bool := rightB [M 0, M 1, M 2, M 3, M 4, M 5, M 6, M 7, M 8, M 9, M 10, M 11]
def rightM (Ms : List (Nat → Int)) : Bool := Ms.all okM

theorem row12 {w : World} {g : Nat} {t : TypeId} {M : Nat → Int} (h : Blk w g t #[.int .i64 (M 0), .int .i64 (M 1), .int .i64 (M 2), .int .i64 (M 3), .int .i64 (M 4), .int .i64 (M 5), .int .i64 (M 6), .int .i64 (M 7), .int .i64 (M 8), .int .i64 (M 9), .int .i64 (M 10), .int .i64 (M 11)]) : Row w (some ⟨g, 0, none⟩) 12 [M 0, M 1, M 2, M 3, M 4, M 5, M 6, M 7, M 8, M 9, M 10, M 11] := by
  refine ⟨rfl, by omega, Or.inr ⟨_, _, rfl, fun k hk => ?_⟩⟩
  rcases lt12 hk with rfl | rfl | rfl | rfl | rfl | rfl | rfl | rfl | rfl | rfl | rfl | rfl
  · exact h.cell 0
  · exact h.cell 1
  · exact h.cell 2
  · exact h.cell 3
  · exact h.cell 4
  · exact h.cell 5
  · exact h.cell 6
  · exact h.cell 7
  · exact h.cell 8
  · exact h.cell 9
  · exact h.cell 10
  · exact h.cell 11
theorem okM_of {M : Nat → Int} (h : ∀ k, k < 12 → okB (M k) = true) : okM M = true := by
  unfold okM rightB
  simp [h 0 (by omega), h 1 (by omega), h 2 (by omega), h 3 (by omega), h 4 (by omega), h 5 (by omega), h 6 (by omega), h 7 (by omega), h 8 (by omega), h 9 (by omega), h 10 (by omega), h 11 (by omega)]

/-- a slice of matrices whose elements are 'Ms' -/
def MRow (w : World) (a : Option Addr) (len : Nat) (Ms : List (Nat → Int)) : Prop :=
  Ms.length = len ∧ len ≤ 9223372036854775807 ∧ (len = 0 ∨ ∃ b off, a = some ⟨b, off, none⟩ ∧ ∀ i, i < len → ∀ j, j < 12 → w.cell? ⟨b, off + i * 12 + j, none⟩ = some (.int .i64 (Ms.getD i zeroM j)))
theorem mrow_keep {w w' : World} {a : Option Addr} {len : Nat} {Ms : List (Nat → Int)} (h : MRow w a len Ms) (hb : Below w.heap.size w w') : MRow w' a len Ms := by
  obtain ⟨h1, h2, h3⟩ := h
  refine ⟨h1, h2, ?_⟩
  rcases h3 with h3 | ⟨b, off, e, hc⟩
  · exact Or.inl h3
  · exact Or.inr ⟨b, off, e, fun i hi j hj => cell_keep (hc i hi j hj) hb⟩
theorem MRow.at_ {w : World} {a : Option Addr} {len k : Nat} {Ms : List (Nat → Int)} (h : MRow w a len Ms) (hk : k < len) :
    ∃ b off M, a = some ⟨b, off, none⟩ ∧ Ms[k]? = some M ∧ w.cell? ⟨b, off + k * 12, none⟩ = some (.int .i64 (M 0)) ∧ w.cell? ⟨b, off + k * 12 + 1, none⟩ = some (.int .i64 (M 1)) ∧ w.cell? ⟨b, off + k * 12 + 2, none⟩ = some (.int .i64 (M 2)) ∧ w.cell? ⟨b, off + k * 12 + 3, none⟩ = some (.int .i64 (M 3)) ∧ w.cell? ⟨b, off + k * 12 + 4, none⟩ = some (.int .i64 (M 4)) ∧ w.cell? ⟨b, off + k * 12 + 5, none⟩ = some (.int .i64 (M 5)) ∧ w.cell? ⟨b, off + k * 12 + 6, none⟩ = some (.int .i64 (M 6)) ∧ w.cell? ⟨b, off + k * 12 + 7, none⟩ = some (.int .i64 (M 7)) ∧ w.cell? ⟨b, off + k * 12 + 8, none⟩ = some (.int .i64 (M 8)) ∧ w.cell? ⟨b, off + k * 12 + 9, none⟩ = some (.int .i64 (M 9)) ∧ w.cell? ⟨b, off + k * 12 + 10, none⟩ = some (.int .i64 (M 10)) ∧ w.cell? ⟨b, off + k * 12 + 11, none⟩ = some (.int .i64 (M 11)) := by
  obtain ⟨h1, h2, h3⟩ := h
  rcases h3 with h3 | ⟨b, off, rfl, hc⟩
  · omega
  · have hk' : k < Ms.length := by omega
    have e : Ms.getD k zeroM = Ms[k] := by simp [List.getD, List.getElem?_eq_getElem hk']
    have c := hc k hk
    rw [e] at c
    exact ⟨b, off, _, rfl, List.getElem?_eq_getElem hk', c 0 (by omega), c 1 (by omega), c 2 (by omega), c 3 (by omega), c 4 (by omega), c 5 (by omega), c 6 (by omega), c 7 (by omega), c 8 (by omega), c 9 (by omega), c 10 (by omega), c 11 (by omega)⟩
theorem rightM_succ {Ms : List (Nat → Int)} {k : Nat} {M : Nat → Int} (h : Ms[k]? = some M) (hr : rightM (Ms.take k) = true) (ho : okM M = true) : rightM (Ms.take (k + 1)) = true := by
  unfold rightM at hr ⊢
  rw [List.take_add_one, List.all_append, hr, h]
  simpa using ho
theorem rightM_bad {Ms : List (Nat → Int)} {k : Nat} {M : Nat → Int} (h : Ms[k]? = some M) (ho : okM M = false) : rightM Ms = false := by
  unfold rightM
  rw [List.all_eq_false]
  exact ⟨M, List.mem_of_getElem? h, by simpa using ho⟩
theorem rightM_all {Ms : List (Nat → Int)} {k : Nat} (hr : rightM (Ms.take k) = true) (h : Ms.length ≤ k) : rightM Ms = true := by
  rwa [List.take_of_length_le h] at hr

theorem right12_yes {w : World} {g cap : Nat} {t : TypeId} {M : Nat → Int} (ho : okM M = true) (h : Blk w g t #[.int .i64 (M 0), .int .i64 (M 1), .int .i64 (M 2), .int .i64 (M 3), .int .i64 (M 4), .int .i64 (M 5), .int .i64 (M 6), .int .i64 (M 7), .int .i64 (M 8), .int .i64 (M 9), .int .i64 (M 10), .int .i64 (M 11)]) :
    Calls Tryz.prog 76 #[.slice (some ⟨g, 0, none⟩) 12 cap] w fun e w' => e = .returned (.bool true) ∧ w = w' :=
  (right_any _ 12 cap [M 0, M 1, M 2, M 3, M 4, M 5, M 6, M 7, M 8, M 9, M 10, M 11] w (row12 h)).mono fun _ _ ⟨he, hw⟩ => ⟨by rw [he, show rightB [M 0, M 1, M 2, M 3, M 4, M 5, M 6, M 7, M 8, M 9, M 10, M 11] = true from ho], hw⟩
theorem right12_no {w : World} {g cap : Nat} {t : TypeId} {M : Nat → Int} (ho : okM M = false) (h : Blk w g t #[.int .i64 (M 0), .int .i64 (M 1), .int .i64 (M 2), .int .i64 (M 3), .int .i64 (M 4), .int .i64 (M 5), .int .i64 (M 6), .int .i64 (M 7), .int .i64 (M 8), .int .i64 (M 9), .int .i64 (M 10), .int .i64 (M 11)]) :
    Calls Tryz.prog 76 #[.slice (some ⟨g, 0, none⟩) 12 cap] w fun e w' => e = .returned (.bool false) ∧ w = w' :=
  (right_any _ 12 cap [M 0, M 1, M 2, M 3, M 4, M 5, M 6, M 7, M 8, M 9, M 10, M 11] w (row12 h)).mono fun _ _ ⟨he, hw⟩ => ⟨by rw [he, show rightB [M 0, M 1, M 2, M 3, M 4, M 5, M 6, M 7, M 8, M 9, M 10, M 11] = false from ho], hw⟩

set_option maxHeartbeats 1000000 in
theorem mright_any (a : Option Addr) (len cap : Nat) (Ms : List (Nat → Int)) (w : World) (row : MRow w a len Ms) :
    Calls Tryz.prog 58 #[.slice a len cap] w fun e w' => e = .returned (.bool (rightM Ms)) ∧ Below w.heap.size w w' := by
  have HL := Lib.hid row.1
  have hbig := row.2.1
  have HRow := Lib.hid row
  clear row
  go_enter Tryz.func58, Tryz.ntmps58
  go_wp2
  go_loopw [4, 7] (fun _ i wr => ∃ k : Nat, k ≤ len ∧ i = .int .i64 k ∧ rightM (Ms.take k) = true ∧ Below w.heap.size w wr) (fun _ i _ => len - (intOf i).toNat)
  case atStart => exact ⟨0, Nat.zero_le _, rfl, rfl, Below.refl _ _⟩
  case round =>
    obtain ⟨k, hk, rfl, hr, hb⟩ := hrel
    have HR := Lib.hid hr
    have HB := Lib.hid hb
    clear hr hb
    by_cases hlt : k < len
    · obtain ⟨b, off, M, rfl, hv, c0, c1, c2, c3, c4, c5, c6, c7, c8, c9, c10, c11⟩ := (mrow_keep HRow.out HB.out).at_ hlt
      have HV := Lib.hid hv
      clear hv
      by_cases ho : okM M = true
      · have HO := Lib.hid ho
        clear ho
        go_wp2_with (go_at_call 76; refine (right12_yes HO.out (Blk.new _ _ _)).mono ?_; rintro e w' ⟨rfl, rfl⟩)
        go_roundw
        case rel => exact ⟨k + 1, by omega, by go_num, rightM_succ HV.out HR.out HO.out, balloc HB.out _⟩
        case measure => simp [intOf]; omega
      · have ho' : okM M = false := by simpa using ho
        have HO := Lib.hid ho'
        clear ho ho'
        go_wp2_with (go_at_call 76; refine (right12_no HO.out (Blk.new _ _ _)).mono ?_; rintro e w' ⟨rfl, rfl⟩)
        go_ret
        exact ⟨ret_bool (rightM_bad HV.out HO.out).symm, balloc HB.out _⟩
    · go_wp2
      go_ret
      exact ⟨ret_bool (rightM_all HR.out (by rw [HL.out]; omega)).symm, HB.out⟩

theorem rright12 {w : World} {g cap : Nat} {t : TypeId} {M : Nat → Int} (h : Blk w g t #[.int .i64 (M 0), .int .i64 (M 1), .int .i64 (M 2), .int .i64 (M 3), .int .i64 (M 4), .int .i64 (M 5), .int .i64 (M 6), .int .i64 (M 7), .int .i64 (M 8), .int .i64 (M 9), .int .i64 (M 10), .int .i64 (M 11)]) :
    Calls Tryz.prog 62 #[.slice (some ⟨g, 0, none⟩) 12 cap] w fun e w' => e = .returned (.bool (okM M)) ∧ w = w' :=
  rright_any _ 12 cap [M 0, M 1, M 2, M 3, M 4, M 5, M 6, M 7, M 8, M 9, M 10, M 11] w (row12 h)

set_option maxHeartbeats 400000 in
theorem rmright_any (M : Nat → Int) (w : World) :
    Calls Tryz.prog 37 #[.agg #[.int .i64 (M 0), .int .i64 (M 1), .int .i64 (M 2), .int .i64 (M 3), .int .i64 (M 4), .int .i64 (M 5), .int .i64 (M 6), .int .i64 (M 7), .int .i64 (M 8), .int .i64 (M 9), .int .i64 (M 10), .int .i64 (M 11)]] w fun e w' => e = .returned (.bool (okM M)) ∧ Below w.heap.size w w' := by
  go_enter Tryz.func37, Tryz.ntmps37
  go_wp2_with (go_at_call 62; refine (rright12 (M := M) (Blk.new _ _ _)).mono ?_; rintro e w' ⟨rfl, rfl⟩)
  go_ret
  exact ⟨rfl, alloc_below _ _⟩
theorem rmright_yes {M : Nat → Int} (h : okM M = true) (w : World) :
    Calls Tryz.prog 37 #[.agg #[.int .i64 (M 0), .int .i64 (M 1), .int .i64 (M 2), .int .i64 (M 3), .int .i64 (M 4), .int .i64 (M 5), .int .i64 (M 6), .int .i64 (M 7), .int .i64 (M 8), .int .i64 (M 9), .int .i64 (M 10), .int .i64 (M 11)]] w fun e w' => e = .returned (.bool true) ∧ Below w.heap.size w w' :=
  (rmright_any M w).mono fun _ _ ⟨he, hw⟩ => ⟨by rw [he, h], hw⟩
/-- where a row's number stands -/
theorem at_any (r p : Nat) (w : World) (hr : r < 3) (hp : p < 4) :
    Calls Tryz.prog 106 #[.int .i64 r, .int .i64 p] w fun e w' => e = .returned (.int .i64 ((4 * r + p : Nat) : Int)) ∧ w = w' := by
  go_enter Tryz.func106, Tryz.ntmps106
  go_wp2
  go_ret
  exact ⟨ret_int (by omega), rfl⟩
theorem at_last (r : Nat) (w : World) (hr : r < 3) :
    Calls Tryz.prog 106 #[.int .i64 r, .int .i64 3] w fun e w' => e = .returned (.int .i64 ((4 * r + 3 : Nat) : Int)) ∧ w = w' := at_any r 3 w hr (by omega)

end Go.Proofs.YtdndafdninnjfaaGreat
/-
  What package affine's Scale, Same, Move and Turn answer, and the reference's.
-/
namespace Go.Proofs.YtdndafdninnjfaaGreat
open Go.RowKit

def diagM (V : Nat → Int) (k : Nat) : Int := if k = 0 then V 0 else if k = 5 then V 1 else if k = 10 then V 2 else 0
def sameM : Nat → Int := diagM (fun _ => 65536)
/-- what is known of a world, in the place of the world -/
theorem fin {Q : World → Prop} {W : World} (P : World → Prop) (h : P W) (k : ∀ W', P W' → Q W') : Q W := k W h
theorem bdrewn {n : Nat} {w a : World} (h : Below n w a) : Below n w a.drew := ⟨h.os, h.tape, h.output, h.size, h.block⟩

set_option maxHeartbeats 1000000 in
theorem scale_xyz (x y z : Int) (w : World) :
    Calls Tryz.prog 105 #[.agg #[.int .i64 x, .int .i64 y, .int .i64 z]] w fun e w' => e = .returned (.agg #[.int .i64 x, .int .i64 0, .int .i64 0, .int .i64 0, .int .i64 0, .int .i64 y, .int .i64 0, .int .i64 0, .int .i64 0, .int .i64 0, .int .i64 z, .int .i64 0]) ∧ Below w.heap.size w w' := by
  go_enter Tryz.func105, Tryz.ntmps105
  go_wp2
  refine wp_loop_rounds 4 ?_
  rw [rounds_succ]
  go_wp2
  go_region_held3 (fun w' => w'.cell? ⟨w.heap.size, 0, none⟩ = some (.int .i64 x)) (first | go_keep)
    (first | (go_at_call 106; refine (at_any 0 0 _ (by omega) (by omega)).mono ?_; rintro e w1 ⟨rfl, rfl⟩))
  go_wp2
  rw [rounds_succ]
  go_wp2
  go_region_held3 (fun w' => w'.cell? ⟨w.heap.size, 1, none⟩ = some (.int .i64 y)) (first | go_keep)
    (first | (go_at_call 106; refine (at_any 1 1 _ (by omega) (by omega)).mono ?_; rintro e w1 ⟨rfl, rfl⟩))
  go_wp2
  rw [rounds_succ]
  go_wp2
  go_region_held3 (fun w' => w'.cell? ⟨w.heap.size, 2, none⟩ = some (.int .i64 z)) (first | go_keep)
    (first | (go_at_call 106; refine (at_any 2 2 _ (by omega) (by omega)).mono ?_; rintro e w1 ⟨rfl, rfl⟩))
  go_wp2
  rw [rounds_succ]
  go_wp2
  exact bodyPost_ret (v := .agg #[.int .i64 x, .int .i64 0, .int .i64 0, .int .i64 0, .int .i64 0, .int .i64 y, .int .i64 0, .int .i64 0, .int .i64 0, .int .i64 0, .int .i64 z, .int .i64 0]) (by simp [results, Tryz.results105, go_sem]) rfl ⟨rfl, bdrewn (bdrewn (bdrewn (balloc (balloc (alloc_below _ _) _) _)))⟩

set_option maxHeartbeats 1000000 in
theorem rdiag_xyz (x y z : Int) (w : World) :
    Calls Tryz.prog 57 #[.agg #[.int .i64 x, .int .i64 y, .int .i64 z]] w fun e w' => e = .returned (.agg #[.int .i64 x, .int .i64 0, .int .i64 0, .int .i64 0, .int .i64 0, .int .i64 y, .int .i64 0, .int .i64 0, .int .i64 0, .int .i64 0, .int .i64 z, .int .i64 0]) ∧ Below w.heap.size w w' := by
  go_enter Tryz.func57, Tryz.ntmps57
  go_wp2
  refine wp_loop_rounds 4 ?_
  rw [rounds_succ]
  go_wp2
  rw [rounds_succ]
  go_wp2
  rw [rounds_succ]
  go_wp2
  rw [rounds_succ]
  go_wp2
  exact bodyPost_ret (v := .agg #[.int .i64 x, .int .i64 0, .int .i64 0, .int .i64 0, .int .i64 0, .int .i64 y, .int .i64 0, .int .i64 0, .int .i64 0, .int .i64 0, .int .i64 z, .int .i64 0]) (by simp [results, Tryz.results57, go_sem]) rfl ⟨rfl, balloc (balloc (alloc_below _ _) _) _⟩

set_option maxHeartbeats 1000000 in
theorem same_any (w : World) :
    Calls Tryz.prog 92 #[] w fun e w' => e = .returned (.agg #[.int .i64 65536, .int .i64 0, .int .i64 0, .int .i64 0, .int .i64 0, .int .i64 65536, .int .i64 0, .int .i64 0, .int .i64 0, .int .i64 0, .int .i64 65536, .int .i64 0]) ∧ Below w.heap.size w w' := by
  go_enter Tryz.func92, Tryz.ntmps92
  go_wp2_with fail
  refine (scale_xyz 65536 65536 65536 _).mono ?_
  rintro e w1 ⟨rfl, b1⟩
  have K1 := Lib.hid ((Blk.new w 46 _).keep b1)
  have B1 := Lib.hid (bthen (alloc_below _ _) b1)
  clear b1
  obtain ⟨c0, c1, c2, c3, c4, c5, c6, c7, c8, c9, c10, c11, f0, f1, f2, f3, f4, f5, f6, f7, f8, f9, f10, f11⟩ := blk12 K1.out
  go_wp2
  exact bodyPost_ret (v := .agg #[.int .i64 65536, .int .i64 0, .int .i64 0, .int .i64 0, .int .i64 0, .int .i64 65536, .int .i64 0, .int .i64 0, .int .i64 0, .int .i64 0, .int .i64 65536, .int .i64 0]) (by simp [results, Tryz.results92, go_sem, c0, c1, c2, c3, c4, c5, c6, c7, c8, c9, c10, c11]) rfl ⟨rfl, bset12 B1.out (by omega)⟩

set_option maxHeartbeats 1000000 in
theorem rsame_any (w : World) :
    Calls Tryz.prog 32 #[] w fun e w' => e = .returned (.agg #[.int .i64 65536, .int .i64 0, .int .i64 0, .int .i64 0, .int .i64 0, .int .i64 65536, .int .i64 0, .int .i64 0, .int .i64 0, .int .i64 0, .int .i64 65536, .int .i64 0]) ∧ Below w.heap.size w w' := by
  go_enter Tryz.func32, Tryz.ntmps32
  go_wp2_with fail
  refine (rdiag_xyz 65536 65536 65536 _).mono ?_
  rintro e w1 ⟨rfl, b1⟩
  have K1 := Lib.hid ((Blk.new w 46 _).keep b1)
  have B1 := Lib.hid (bthen (alloc_below _ _) b1)
  clear b1
  obtain ⟨c0, c1, c2, c3, c4, c5, c6, c7, c8, c9, c10, c11, f0, f1, f2, f3, f4, f5, f6, f7, f8, f9, f10, f11⟩ := blk12 K1.out
  go_wp2
  exact bodyPost_ret (v := .agg #[.int .i64 65536, .int .i64 0, .int .i64 0, .int .i64 0, .int .i64 0, .int .i64 65536, .int .i64 0, .int .i64 0, .int .i64 0, .int .i64 0, .int .i64 65536, .int .i64 0]) (by simp [results, Tryz.results32, go_sem, c0, c1, c2, c3, c4, c5, c6, c7, c8, c9, c10, c11]) rfl ⟨rfl, bset12 B1.out (by omega)⟩

end Go.Proofs.YtdndafdninnjfaaGreat
/-
  What package affine's Move answers, and the reference's.
-/
namespace Go.Proofs.YtdndafdninnjfaaGreat
open Go.RowKit

set_option maxHeartbeats 1000000 in
theorem rmove_xyz (x y z : Int) (w : World) :
    Calls Tryz.prog 14 #[.agg #[.int .i64 x, .int .i64 y, .int .i64 z]] w fun e w' => e = .returned (.agg #[.int .i64 65536, .int .i64 0, .int .i64 0, .int .i64 x, .int .i64 0, .int .i64 65536, .int .i64 0, .int .i64 y, .int .i64 0, .int .i64 0, .int .i64 65536, .int .i64 z]) ∧ Below w.heap.size w w' := by
  go_enter Tryz.func14, Tryz.ntmps14
  go_wp2_with fail
  refine (rsame_any _).mono ?_
  rintro e w1 ⟨rfl, b1⟩
  have K1 := Lib.hid (blkAt ((Blk.new (w.alloc _) 46 _).keep b1) (g' := w.heap.size + 1) (by simp))
  have L1 := Lib.hid (((Blk.new w 56 _).alloc _).keep b1)
  have B1 := Lib.hid (bthen (balloc (alloc_below _ _) _) b1)
  clear b1
  obtain ⟨d0, d1, d2, _, _, _⟩ := blk3 L1.out
  have z2 := L1.out.lt
  go_wp2
  refine wp_loop_rounds 4 ?_
  rw [rounds_succ]
  go_wp2
  rw [rounds_succ]
  go_wp2
  rw [rounds_succ]
  go_wp2
  rw [rounds_succ]
  clear d0 d1 d2 z2
  refine fin (fun W => Blk W (w.heap.size + 1) 46 #[.int .i64 0, .int .i64 0, .int .i64 0, .int .i64 0, .int .i64 0, .int .i64 0, .int .i64 0, .int .i64 0, .int .i64 0, .int .i64 0, .int .i64 0, .int .i64 0] ∧ Blk W w1.heap.size 46 #[.int .i64 65536, .int .i64 0, .int .i64 0, .int .i64 x, .int .i64 0, .int .i64 65536, .int .i64 0, .int .i64 y, .int .i64 0, .int .i64 0, .int .i64 65536, .int .i64 z] ∧ Below w.heap.size w W) ⟨K1.out.alloc _, Blk.new w1 _ _, balloc B1.out _⟩ ?_
  rintro W ⟨hk, hm, hb⟩
  have HB := Lib.hid hb
  clear hb
  obtain ⟨c0, c1, c2, c3, c4, c5, c6, c7, c8, c9, c10, c11, f0, f1, f2, f3, f4, f5, f6, f7, f8, f9, f10, f11⟩ := blk12 hk
  obtain ⟨d0, d1, d2, d3, d4, d5, d6, d7, d8, d9, d10, d11, _, _, _, _, _, _, _, _, _, _, _, _⟩ := blk12 hm
  go_wp2
  exact bodyPost_ret (v := .agg #[.int .i64 65536, .int .i64 0, .int .i64 0, .int .i64 x, .int .i64 0, .int .i64 65536, .int .i64 0, .int .i64 y, .int .i64 0, .int .i64 0, .int .i64 65536, .int .i64 z]) (by simp [results, Tryz.results14, go_sem, c0, c1, c2, c3, c4, c5, c6, c7, c8, c9, c10, c11]) rfl ⟨rfl, bset12 HB.out (by omega)⟩

end Go.Proofs.YtdndafdninnjfaaGreat
/-
  What package affine's Turn answers, and the reference's.
-/
namespace Go.Proofs.YtdndafdninnjfaaGreat
open Go.RowKit

end Go.Proofs.YtdndafdninnjfaaGreat
/-
  What package affine's along and column answer: a row's products with a vector, and one number more, added; a column.
-/
namespace Go.Proofs.YtdndafdninnjfaaGreat
open Go.RowKit

/-- the products of a row and a vector, place by place -/
def alP (M : Nat → Int) (r : Nat) (V : Nat → Int) (j : Nat) : Int := mulV (M (4 * r + j)) (V j)
def alPE (M : Nat → Int) (r : Nat) (V : Nat → Int) (j : Nat) : Int := mulE (M (4 * r + j)) (V j)
def alF (M : Nat → Int) (r : Nat) (V : Nat → Int) : Int := first3 (alPE M r V 0) (alPE M r V 1) (alPE M r V 2)
/-- these, and one number more, added -/
def alL (M : Nat → Int) (r : Nat) (V : Nat → Int) (l : Int) : List Int := [alP M r V 0, alP M r V 1, alP M r V 2, l]
def alV (M : Nat → Int) (r : Nat) (V : Nat → Int) (l : Int) : Int := if alF M r V = 0 then addV (alL M r V l) else 0
def alE (M : Nat → Int) (r : Nat) (V : Nat → Int) (l : Int) : Int := if alF M r V = 0 then addE (alL M r V l) else alF M r V

theorem al_yes {M : Nat → Int} {r : Nat} {V : Nat → Int} (l : Int) (h : alF M r V = 0) : alV M r V l = addV (alL M r V l) ∧ alE M r V l = addE (alL M r V l) := by
  unfold alV alE; rw [if_pos h, if_pos h]; exact ⟨rfl, rfl⟩
theorem al_no {M : Nat → Int} {r : Nat} {V : Nat → Int} (l : Int) (h : alF M r V ≠ 0) : alV M r V l = 0 ∧ alE M r V l = alF M r V := by
  unfold alV alE; rw [if_neg h, if_neg h]; exact ⟨rfl, rfl⟩

theorem at_of (r p n : Nat) (w : World) (hr : r < 3) (hp : p < 4) (hn : n = 4 * r + p) :
    Calls Tryz.prog 106 #[.int .i64 r, .int .i64 p] w fun e w' => e = .returned (.int .i64 (n : Int)) ∧ w = w' := by
  subst hn; exact at_any r p w hr hp
theorem at3_of (r n : Nat) (w : World) (hr : r < 3) (hn : n = 4 * r + 3) :
    Calls Tryz.prog 106 #[.int .i64 r, .int .i64 3] w fun e w' => e = .returned (.int .i64 (n : Int)) ∧ w = w' := by
  subst hn; exact at_last r w hr

/-- the four numbers that are added, so far -/
def termTo (f : Nat → Int) (l : Int) (k j : Nat) : Value := if j = 3 then .int .i64 l else laidTo f k j
theorem term_step (f : Nat → Int) (l : Int) (k j : Nat) (hk : k < 3) : (if j = k then Value.int .i64 (f k) else termTo f l k j) = termTo f l (k + 1) j := by
  unfold termTo
  by_cases e : j = 3
  · rw [if_neg (by omega), if_pos e, if_pos e]
  · rw [if_neg e, if_neg e]; exact laid_step f k j
theorem term_start (w : World) (t : TypeId) (f : Nat → Int) (l : Int) : (w.alloc (.cells #[.int .i64 0, .int .i64 0, .int .i64 0, .int .i64 l] t)).rowIs w.heap.size t 4 (termTo f l 0) := by
  refine (World.rowIs_alloc w _ t (termTo f l 0) (fun i hi => ?_))
  obtain rfl | rfl | rfl | rfl : i = 0 ∨ i = 1 ∨ i = 2 ∨ i = 3 := by simp at hi; omega
  · rfl
  · rfl
  · rfl
  · rfl
theorem rowIs_at {w : World} {b b' : Nat} {t : TypeId} {n : Nat} {f : Nat → Value} (h : w.rowIs b t n f) (e : b = b') : w.rowIs b' t n f := e ▸ h

set_option maxHeartbeats 1000000 in
theorem along_any (M : Nat → Int) (r : Nat) (V : Nat → Int) (l : Int) (w : World) (hr : r < 3) :
    Calls Tryz.prog 107 #[.agg #[.int .i64 (M 0), .int .i64 (M 1), .int .i64 (M 2), .int .i64 (M 3), .int .i64 (M 4), .int .i64 (M 5), .int .i64 (M 6), .int .i64 (M 7), .int .i64 (M 8), .int .i64 (M 9), .int .i64 (M 10), .int .i64 (M 11)], .int .i64 r, .agg #[.int .i64 (V 0), .int .i64 (V 1), .int .i64 (V 2)], .int .i64 l] w fun e w' => e = .returned (.tuple #[.int .i64 (alV M r V l), .int .i64 (alE M r V l)]) ∧ Below w.heap.size w w' := by
  go_enter Tryz.func107, Tryz.ntmps107
  go_wp2
  go_loopw [16] (fun i wr => ∃ k : Nat, k ≤ 3 ∧ i = .int .i64 k ∧ (∀ j, j < k → alPE M r V j = 0) ∧ wr.rowIs (w.heap.size + 2) 176 4 (termTo (alP M r V) l k) ∧ BM wr w.heap.size M ∧ BV3 wr (w.heap.size + 1) V ∧ Below w.heap.size w wr) (fun i _ => 3 - (intOf i).toNat)
  case atStart => exact ⟨0, by omega, rfl, fun j hj => by omega, rowIs_at (term_start _ _ _ _) (by simp), ((Blk.new w _ _).alloc _).alloc _, (blkAt ((Blk.new (w.alloc _) _ _).alloc _) (by simp)), balloc (balloc (alloc_below _ _) _) _⟩
  case round =>
    obtain ⟨k, hk, rfl, hz, hrow, hbm, hbv, hb⟩ := hrel
    have HZ := Lib.hid hz
    have HRow := Lib.hid hrow
    have HM := Lib.hid hbm
    have HV := Lib.hid hbv
    have HB := Lib.hid hb
    clear hz hrow hbm hbv hb
    by_cases hlt : k < 3
    · obtain ⟨n, hn⟩ : ∃ n, n = 4 * r + k := ⟨_, rfl⟩
      have HN := Lib.hid hn
      have hn12 : n < 12 := by omega
      clear hn
      have cx := Blk.at12 HM.out hn12
      have cy := Blk.at3 HV.out hlt
      obtain ⟨x, hx⟩ : ∃ x, x = M n := ⟨_, rfl⟩
      obtain ⟨y, hy⟩ : ∃ y, y = V k := ⟨_, rfl⟩
      have HD : Hid (alP M r V k = mulV x y ∧ alPE M r V k = mulE x y) := Lib.hid (by unfold alP alPE; rw [hx, hy, HN.out]; exact ⟨rfl, rfl⟩)
      rw [← hx] at cx
      rw [← hy] at cy
      clear hx hy
      have hk0 : (0 : Int) ≤ (k : Int) := by omega
      have hk3 : (k : Int) < 3 := by omega
      have hn0 : (0 : Int) ≤ (n : Int) := by omega
      have hn1 : (n : Int) < 12 := by omega
      go_wp2
      go_region_held3 (fun w' => w'.cell? ⟨w.heap.size, n, none⟩ = some (.int .i64 x) ∧ w'.cell? ⟨w.heap.size + 1, k, none⟩ = some (.int .i64 y)) (first | exact ⟨cell_keepD b2 cx, cell_keepD b2 cy⟩ | go_keep)
        (first | (go_at_call 106; refine (at_of r k n _ hr (by omega) HN.out).mono ?_; rintro e w1 ⟨rfl, rfl⟩) | (go_at_call 113; refine (mul_any _ _ _).mono ?_; rintro e w2 ⟨rfl, b2⟩))
      have B2 := Lib.hid (bdrew b2)
      clear b2 cx cy
      have HRow2 := Lib.hid (HRow.out.of_block (B2.out.block _ HRow.out.lt))
      have HM2 := Lib.hid (Blk.keep HM.out B2.out)
      have HV2 := Lib.hid (Blk.keep HV.out B2.out)
      have HB2 := Lib.hid (bthen HB.out B2.out)
      clear B2
      by_cases he : mulE x y = 0
      · have HEk := Lib.hid he
        have he' : (mulE x y != 0) = false := by rw [he]; rfl
        clear he
        have rc := HRow2.out.cell (i := k) (by omega)
        have rf := HRow2.out.frozen k
        have hk3' : k ≠ 3 := by omega
        unfold termTo laidTo at rc
        simp only [Nat.lt_irrefl, if_false, hk3'] at rc
        go_wp2
        go_roundw
        case rel => exact ⟨k + 1, by omega, by go_num, err_step HZ.out (by rw [HD.out.2]; exact HEk.out), (HRow2.out.set k _).congr (fun i _ => by rw [← HD.out.1]; exact term_step _ _ k i hlt), HM2.out.far (by simp; omega) _, HV2.out.far (by simp) _, HB2.out.setCell (by simp; omega) _⟩
        case measure => simp [intOf]; omega
      · have HEk := Lib.hid he
        have he' : (mulE x y != 0) = true := by simpa using he
        clear he
        go_wp2
        go_ret2
        have e1 : alF M r V = mulE x y := by
          rw [← HD.out.2]
          exact first3_at (e := alPE M r V) hlt HZ.out (by rw [HD.out.2]; exact HEk.out)
        have e2 : alF M r V ≠ 0 := by rw [e1]; exact HEk.out
        exact ⟨by rw [(al_no l e2).1, (al_no l e2).2, e1]; rfl, HB2.out⟩
    · obtain rfl : k = 3 := by omega
      have hrow : Row wr (some ⟨w.heap.size + 2, 0, none⟩) 4 (alL M r V l) := row_of_is rfl (by omega) (HRow.out.congr (fun i hi => by
        obtain rfl | rfl | rfl | rfl : i = 0 ∨ i = 1 ∨ i = 2 ∨ i = 3 := by omega
        · rfl
        · rfl
        · rfl
        · rfl))
      have HR := Lib.hid hrow
      clear hrow
      go_wp2_with fail
      refine (add_any _ _ _ _ _ HR.out).mono ?_
      rintro e w2 ⟨rfl, b2⟩
      have HB2 := Lib.hid (bthen HB.out b2)
      clear b2
      go_wp2
      go_ret2
      have e1 : alF M r V = 0 := first3_none (e := alPE M r V) HZ.out
      exact ⟨by rw [(al_yes l e1).1, (al_yes l e1).2]; rfl, HB2.out⟩

/-- the number that each row has at a place -/
def colM (M : Nat → Int) (p j : Nat) : Int := M (4 * j + p)

set_option maxHeartbeats 1000000 in
theorem column_any (M : Nat → Int) (p : Nat) (w : World) (hp : p < 4) :
    Calls Tryz.prog 108 #[.agg #[.int .i64 (M 0), .int .i64 (M 1), .int .i64 (M 2), .int .i64 (M 3), .int .i64 (M 4), .int .i64 (M 5), .int .i64 (M 6), .int .i64 (M 7), .int .i64 (M 8), .int .i64 (M 9), .int .i64 (M 10), .int .i64 (M 11)], .int .i64 p] w fun e w' => e = .returned (.agg #[.int .i64 (colM M p 0), .int .i64 (colM M p 1), .int .i64 (colM M p 2)]) ∧ Below w.heap.size w w' := by
  go_enter Tryz.func108, Tryz.ntmps108
  go_wp2
  go_loopw [7] (fun i wr => ∃ k : Nat, k ≤ 3 ∧ i = .int .i64 k ∧ wr.rowIs (w.heap.size + 2) 56 3 (laidTo (colM M p) k) ∧ BM wr w.heap.size M ∧ Blk wr (w.heap.size + 1) 56 #[.int .i64 0, .int .i64 0, .int .i64 0] ∧ Below w.heap.size w wr) (fun i _ => 3 - (intOf i).toNat)
  case atStart => exact ⟨0, by omega, rfl, rowIs_at (laid_start _ _ _) (by simp), ((Blk.new w _ _).alloc _).alloc _, (blkAt ((Blk.new (w.alloc _) _ _).alloc _) (by simp)), balloc (balloc (alloc_below _ _) _) _⟩
  case round =>
    obtain ⟨k, hk, rfl, hrow, hbm, hres, hb⟩ := hrel
    have HRow := Lib.hid hrow
    have HM := Lib.hid hbm
    have HRes := Lib.hid hres
    have HB := Lib.hid hb
    clear hrow hbm hres hb
    by_cases hlt : k < 3
    · obtain ⟨n, hn⟩ : ∃ n, n = 4 * k + p := ⟨_, rfl⟩
      have HN := Lib.hid hn
      have hn12 : n < 12 := by omega
      clear hn
      have cx := Blk.at12 HM.out hn12
      have rc := HRow.out.cell (i := k) (by omega)
      have rf := HRow.out.frozen k
      unfold laidTo at rc
      simp only [Nat.lt_irrefl, if_false] at rc
      have hk0 : (0 : Int) ≤ (k : Int) := by omega
      have hk3 : (k : Int) < 3 := by omega
      have hn0 : (0 : Int) ≤ (n : Int) := by omega
      have hn1 : (n : Int) < 12 := by omega
      go_wp2_with fail
      refine (at_of k p n _ (by omega) (by omega) HN.out).mono ?_
      rintro e w1 ⟨rfl, rfl⟩
      go_wp2
      go_roundw
      case rel => exact ⟨k + 1, by omega, by go_num, (HRow.out.set k _).congr (fun i _ => by rw [show M n = colM M p k by unfold colM; rw [HN.out]]; exact laid_step _ k i), HM.out.far (by simp; omega) _, HRes.out.far (by simp) _, HB.out.setCell (by simp; omega) _⟩
      case measure => simp [intOf]; omega
    · obtain rfl : k = 3 := by omega
      have o0 : wr.cell? ⟨w.heap.size + 2, 0, none⟩ = some (.int .i64 (colM M p 0)) := HRow.out.cell (i := 0) (by omega)
      have o1 : wr.cell? ⟨w.heap.size + 2, 1, none⟩ = some (.int .i64 (colM M p 1)) := HRow.out.cell (i := 1) (by omega)
      have o2 : wr.cell? ⟨w.heap.size + 2, 2, none⟩ = some (.int .i64 (colM M p 2)) := HRow.out.cell (i := 2) (by omega)
      obtain ⟨z0, z1, z2, g0, g1, g2⟩ := blk3 HRes.out
      go_wp2
      exact bodyPost_ret (v := .agg #[.int .i64 (colM M p 0), .int .i64 (colM M p 1), .int .i64 (colM M p 2)]) (by simp [results, Tryz.results108, go_sem, z0, z1, z2]) rfl ⟨rfl, bset3 HB.out (by omega)⟩

end Go.Proofs.YtdndafdninnjfaaGreat
/-
  What the reference's sum of layer 3 answers.
-/
namespace Go.Proofs.YtdndafdninnjfaaGreat
open Go.RowKit

theorem rightB_rot (l a b c : Int) : rightB [l, a, b, c] = rightB [a, b, c, l] := by
  unfold rightB
  simp only [List.all_cons, List.all_nil, Bool.and_true]
  cases okB l <;> cases okB a <;> cases okB b <;> cases okB c <;> rfl
theorem addOk_rot (l a b c : Int) : addOk [l, a, b, c] = addOk [a, b, c, l] := by unfold addOk; rw [rightB_rot]; rfl
theorem sum_rot (l a b c : Int) : [l, a, b, c].sum = [a, b, c, l].sum := by simp; omega
theorem addV_rot (l a b c : Int) : addV [l, a, b, c] = addV [a, b, c, l] := by unfold addV; rw [addOk_rot, sum_rot]
theorem addE_rot (l a b c : Int) : addE [l, a, b, c] = addE [a, b, c, l] := by unfold addE; rw [addOk_rot, sum_rot]

/-- the list that the reference makes -/
def alR (M : Nat → Int) (r : Nat) (V : Nat → Int) (l : Int) : List Int := [l, alP M r V 0, alP M r V 1, alP M r V 2]
theorem alR_take (M : Nat → Int) (r : Nat) (V : Nat → Int) (l : Int) {k : Nat} (hk : k < 3) : (alR M r V l).take (k + 1 + 1) = (alR M r V l).take (k + 1) ++ [alP M r V k] := by
  obtain rfl | rfl | rfl : k = 0 ∨ k = 1 ∨ k = 2 := by omega
  · rfl
  · rfl
  · rfl
theorem owns_one (w : World) (base : Nat) (x : Int) (hb : base ≤ w.heap.size) (N : Nat) (hN : w.heap.size = N) : Owns (w.alloc (.cells #[.int .i64 x] 44)) base (.slice (some ⟨N, 0, none⟩) 1 1) 1 [x] := by
  subst hN
  exact World.ownsRow_lit w #[.int .i64 x] 1 hb (by unfold maxLen; omega) rfl

set_option maxHeartbeats 1000000 in
theorem rsum_any (M : Nat → Int) (r : Nat) (V : Nat → Int) (l : Int) (w : World) (hr : r < 3) :
    Calls Tryz.prog 95 #[.agg #[.int .i64 (M 0), .int .i64 (M 1), .int .i64 (M 2), .int .i64 (M 3), .int .i64 (M 4), .int .i64 (M 5), .int .i64 (M 6), .int .i64 (M 7), .int .i64 (M 8), .int .i64 (M 9), .int .i64 (M 10), .int .i64 (M 11)], .int .i64 r, .agg #[.int .i64 (V 0), .int .i64 (V 1), .int .i64 (V 2)], .int .i64 l] w fun e w' => e = .returned (.tuple #[.int .i64 (alV M r V l), .int .i64 (alE M r V l)]) ∧ Below w.heap.size w w' := by
  obtain ⟨i0, hi0, hz0, hz1, hz2⟩ := info_parts f_info
  have HI := Lib.hid (And.intro hi0 (And.intro hz0 (And.intro hz1 hz2)))
  clear hi0 hz0 hz1 hz2
  go_enter Tryz.func95, Tryz.ntmps95
  go_wp2
  go_loopw [10, 11] (fun v i wr => ∃ k : Nat, k ≤ 3 ∧ i = .int .i64 k ∧ (∀ j, j < k → alPE M r V j = 0) ∧ Owns wr (w.heap.size + 2) v (k + 1) ((alR M r V l).take (k + 1)) ∧ BM wr w.heap.size M ∧ Blk wr (w.heap.size + 1) 55 #[.int .i64 (V 0), .int .i64 (V 1), .int .i64 (V 2)] ∧ Below w.heap.size w wr ∧ w.heap.size + 2 ≤ wr.heap.size) (fun _ i _ => 3 - (intOf i).toNat)
  case atStart => exact ⟨0, by omega, rfl, fun j hj => by omega, owns_one _ _ l (by simp) _ (by simp), ((Blk.new w _ _).alloc _).alloc _, (blkAt ((Blk.new (w.alloc _) _ _).alloc _) (by simp)), balloc (balloc (alloc_below _ _) _) _, by simp⟩
  case round =>
    obtain ⟨k, hk, rfl, hz, hown, hbm, hbv, hb, hsz⟩ := hrel
    have HZ := Lib.hid hz
    have HOwn := Lib.hid hown
    have HM := Lib.hid hbm
    have HV := Lib.hid hbv
    have HB := Lib.hid hb
    clear hz hown hbm hbv hb
    by_cases hlt : k < 3
    · obtain ⟨n, hn⟩ : ∃ n, n = 4 * r + k := ⟨_, rfl⟩
      have HN := Lib.hid hn
      have hn12 : n < 12 := by omega
      have hw1 : IntKind.i64.wrap (4 * (r : Int)) = 4 * (r : Int) := IntWalk.i64_in _ (by omega)
      have hw2 : IntKind.i64.wrap (4 * (r : Int) + (k : Int)) = (n : Int) := by rw [show 4 * (r : Int) + (k : Int) = (n : Int) by omega]; exact IntWalk.i64_in _ (by omega)
      clear hn
      have cx := Blk.at12 HM.out hn12
      have cy := Blk.at3 HV.out hlt
      obtain ⟨x, hx⟩ : ∃ x, x = M n := ⟨_, rfl⟩
      obtain ⟨y, hy⟩ : ∃ y, y = V k := ⟨_, rfl⟩
      have HD : Hid (alP M r V k = mulV x y ∧ alPE M r V k = mulE x y) := Lib.hid (by unfold alP alPE; rw [hx, hy, HN.out]; exact ⟨rfl, rfl⟩)
      rw [← hx] at cx
      rw [← hy] at cy
      clear hx hy
      have hk0 : (0 : Int) ≤ (k : Int) := by omega
      have hk3 : (k : Int) < 3 := by omega
      have hn0 : (0 : Int) ≤ (n : Int) := by omega
      have hn1 : (n : Int) < 12 := by omega
      go_wp2
      go_region_held3 (fun w' => w'.cell? ⟨w.heap.size, n, none⟩ = some (.int .i64 x) ∧ w'.cell? ⟨w.heap.size + 1, k, none⟩ = some (.int .i64 y)) (first | exact ⟨cell_keepD b2 cx, cell_keepD b2 cy⟩ | go_keep)
        (first | (go_at_call 109; refine (rmul_any _ _ _).mono ?_; rintro e w2 ⟨rfl, b2⟩))
      have B2 := Lib.hid (bdrew b2)
      clear b2 cx cy
      have HOwn2 : Hid (Owns w2 (w.heap.size + 2) _ (k + 1) _) := Lib.hid (own_keep HOwn.out B2.out)
      have HM2 := Lib.hid (Blk.keep HM.out B2.out)
      have HV2 := Lib.hid (Blk.keep HV.out B2.out)
      have HB2 := Lib.hid (bthen HB.out B2.out)
      have hsz2 : w.heap.size + 2 ≤ w2.heap.size := Nat.le_trans hsz B2.out.size
      by_cases he : mulE x y = 0
      · have HEk := Lib.hid he
        have he' : (mulE x y != 0) = false := by rw [he]; rfl
        clear he
        go_wp2_with (at_builtin; refine wpList_append_own _ rfl (.tmp 36) (.tmp 38) 124 rfl (w.heap.size + 2) 44 i0 (.int .i64 0) 1 8 Tryz.underlying124 HI.out.1 HI.out.2.1 HI.out.2.2.1 HI.out.2.2.2 rfl (by decide) _ _ _ rfl (HOwn2.out.alloc _) ⟨w2.heap.size, 0, none⟩ 1 1 [.int .i64 (mulV x y)] rfl rfl (cell_one_new _ _ _) (by intro u hu; simp at hu; subst hu; rfl) (by unfold maxLen; omega) (by omega) (by simp; omega) ?_)
        intro v' w3 hown' hgrow _
        have HOwn' := Lib.hid hown'
        have HG := Lib.hid hgrow
        clear hown' hgrow
        go_wp2
        go_roundw
        case rel =>
          have hb3 := grown_below HOwn2.out (by omega) HB2.out HB2.out.size HG.out
          refine ⟨k + 1, by omega, by go_num, err_step HZ.out (by rw [HD.out.2]; exact HEk.out), ?_, HM2.out.same (grown_blk HOwn2.out (by omega) HM2.out.lt HG.out), HV2.out.same (grown_blk HOwn2.out (by omega) HV2.out.lt HG.out), hb3, ?_⟩
          · unfold Owns
            rw [alR_take _ _ _ _ hlt, List.map_append, HD.out.1]
            first | exact HOwn'.out | (rw [List.map_take]; exact HOwn'.out)
          · have := HG.out.size
            simp at this
            omega
        case measure => simp [intOf]; omega
      · have HEk := Lib.hid he
        have he' : (mulE x y != 0) = true := by simpa using he
        clear he
        go_wp2
        go_ret2
        have e1 : alF M r V = mulE x y := by
          rw [← HD.out.2]
          exact first3_at (e := alPE M r V) hlt HZ.out (by rw [HD.out.2]; exact HEk.out)
        have e2 : alF M r V ≠ 0 := by rw [e1]; exact HEk.out
        exact ⟨by rw [(al_no l e2).1, (al_no l e2).2, e1]; rfl, HB2.out⟩
    · obtain rfl : k = 3 := by omega
      obtain ⟨pa, pcap, rfl, hprow⟩ := HOwn.out.row
      have HP : Hid (Row wr pa 4 (alR M r V l)) := Lib.hid hprow
      clear hprow
      go_wp2_with fail
      refine (radd_any _ _ _ _ _ HP.out).mono ?_
      rintro e w2 ⟨rfl, rfl⟩
      go_wp2
      go_ret2
      have e1 : alF M r V = 0 := first3_none (e := alPE M r V) HZ.out
      have e2 : addV (alL M r V l) = addV (alR M r V l) := (addV_rot ..).symm
      have e3 : addE (alL M r V l) = addE (alR M r V l) := (addE_rot ..).symm
      exact ⟨by rw [(al_yes l e1).1, (al_yes l e1).2, e2, e3]; rfl, HB.out⟩

end Go.Proofs.YtdndafdninnjfaaGreat
/-
  What package affine's pair answers: the product of two matrices.
-/
namespace Go.Proofs.YtdndafdninnjfaaGreat
open Go.RowKit

/-- the first error of n, place by place -/
def firstN (e : Nat → Int) : Nat → Int
  | 0 => 0
  | n + 1 => if firstN e n = 0 then e n else firstN e n
theorem firstN_none {e : Nat → Int} : ∀ {n : Nat}, (∀ j, j < n → e j = 0) → firstN e n = 0
  | 0, _ => rfl
  | n + 1, h => by
    unfold firstN
    rw [if_pos (firstN_none (fun j hj => h j (by omega)))]
    exact h n (by omega)
theorem firstN_at {e : Nat → Int} {k : Nat} (h : ∀ j, j < k → e j = 0) (he : e k ≠ 0) : ∀ {n : Nat}, k < n → firstN e n = e k
  | 0, hk => by omega
  | n + 1, hk => by
    unfold firstN
    by_cases c : k = n
    · subst c; rw [if_pos (firstN_none h)]
    · have i := firstN_at h he (n := n) (by omega)
      rw [if_neg (by rw [i]; exact he), i]
/-- what is added besides the products -/
def pairL (A : Nat → Int) (r p : Nat) : Int := if p = 3 then A (4 * r + 3) else 0
def pV (A B : Nat → Int) (k : Nat) : Int := alV A (k / 4) (colM B (k % 4)) (pairL A (k / 4) (k % 4))
def pE (A B : Nat → Int) (k : Nat) : Int := alE A (k / 4) (colM B (k % 4)) (pairL A (k / 4) (k % 4))
/-- the product of two that may be -/
def prodE2 (A B : Nat → Int) : Int := firstN (pE A B) 12
def prodM (A B : Nat → Int) (k : Nat) : Int := gate (prodE2 A B) (pV A B k)
theorem pV_at (A B : Nat → Int) {r p : Nat} (hp : p < 4) : pV A B (4 * r + p) = alV A r (colM B p) (pairL A r p) := by
  unfold pV; rw [show (4 * r + p) / 4 = r by omega, show (4 * r + p) % 4 = p by omega]
theorem pE_at (A B : Nat → Int) {r p : Nat} (hp : p < 4) : pE A B (4 * r + p) = alE A r (colM B p) (pairL A r p) := by
  unfold pE; rw [show (4 * r + p) / 4 = r by omega, show (4 * r + p) % 4 = p by omega]
theorem prod_ok {A B : Nat → Int} (h : prodE2 A B = 0) (k : Nat) : prodM A B k = pV A B k := by unfold prodM; rw [h]; rfl
theorem prod_no {A B : Nat → Int} (h : prodE2 A B ≠ 0) (k : Nat) : prodM A B k = 0 := by unfold prodM gate; rw [if_neg h]

theorem laid12_start (w : World) (t : TypeId) (f : Nat → Int) : (w.alloc (.cells #[.int .i64 0, .int .i64 0, .int .i64 0, .int .i64 0, .int .i64 0, .int .i64 0, .int .i64 0, .int .i64 0, .int .i64 0, .int .i64 0, .int .i64 0, .int .i64 0] t)).rowIs w.heap.size t 12 (laidTo f 0) := by
  refine (World.rowIs_alloc w _ t (laidTo f 0) (fun i hi => ?_))
  rcases lt12 (k := i) (by simpa using hi) with rfl | rfl | rfl | rfl | rfl | rfl | rfl | rfl | rfl | rfl | rfl | rfl <;> rfl
theorem blk_of_row {w : World} {b : Nat} {t : TypeId} {f : Nat → Int} (h : w.rowIs b t 12 (laidTo f (4 * 3))) : Blk w b t #[.int .i64 (f 0), .int .i64 (f 1), .int .i64 (f 2), .int .i64 (f 3), .int .i64 (f 4), .int .i64 (f 5), .int .i64 (f 6), .int .i64 (f 7), .int .i64 (f 8), .int .i64 (f 9), .int .i64 (f 10), .int .i64 (f 11)] := by
  obtain ⟨c, hh, hs, hc⟩ := h
  have e : c = #[.int .i64 (f 0), .int .i64 (f 1), .int .i64 (f 2), .int .i64 (f 3), .int .i64 (f 4), .int .i64 (f 5), .int .i64 (f 6), .int .i64 (f 7), .int .i64 (f 8), .int .i64 (f 9), .int .i64 (f 10), .int .i64 (f 11)] := by
    apply Array.ext
    · simp [hs]
    · intro i h1 h2
      have hi := hc i (by omega)
      rw [Array.getElem?_eq_getElem h1] at hi
      rcases lt12 (k := i) (by omega) with rfl | rfl | rfl | rfl | rfl | rfl | rfl | rfl | rfl | rfl | rfl | rfl <;> simpa [laidTo] using hi
  unfold Blk
  rw [hh, e]
theorem rangeM {w : World} {g : Nat} {t : TypeId} {A : Nat → Int} (hA : Blk w g t #[.int .i64 (A 0), .int .i64 (A 1), .int .i64 (A 2), .int .i64 (A 3), .int .i64 (A 4), .int .i64 (A 5), .int .i64 (A 6), .int .i64 (A 7), .int .i64 (A 8), .int .i64 (A 9), .int .i64 (A 10), .int .i64 (A 11)]) : w.rangeAt g 0 [.int .i64 (A 0), .int .i64 (A 1), .int .i64 (A 2), .int .i64 (A 3), .int .i64 (A 4), .int .i64 (A 5), .int .i64 (A 6), .int .i64 (A 7), .int .i64 (A 8), .int .i64 (A 9), .int .i64 (A 10), .int .i64 (A 11)] := fun j v hv => by
  rw [Nat.zero_add, hA.cell j]
  simpa using hv
theorem range2 {w : World} {g g' : Nat} {t t' : TypeId} {A B : Nat → Int} (hA : Blk w g t #[.int .i64 (A 0), .int .i64 (A 1), .int .i64 (A 2), .int .i64 (A 3), .int .i64 (A 4), .int .i64 (A 5), .int .i64 (A 6), .int .i64 (A 7), .int .i64 (A 8), .int .i64 (A 9), .int .i64 (A 10), .int .i64 (A 11)]) (hB : Blk w g' t' #[.int .i64 (B 0), .int .i64 (B 1), .int .i64 (B 2), .int .i64 (B 3), .int .i64 (B 4), .int .i64 (B 5), .int .i64 (B 6), .int .i64 (B 7), .int .i64 (B 8), .int .i64 (B 9), .int .i64 (B 10), .int .i64 (B 11)]) : w.rangeAt g 0 [.int .i64 (A 0), .int .i64 (A 1), .int .i64 (A 2), .int .i64 (A 3), .int .i64 (A 4), .int .i64 (A 5), .int .i64 (A 6), .int .i64 (A 7), .int .i64 (A 8), .int .i64 (A 9), .int .i64 (A 10), .int .i64 (A 11)] ∧ w.rangeAt g' 0 [.int .i64 (B 0), .int .i64 (B 1), .int .i64 (B 2), .int .i64 (B 3), .int .i64 (B 4), .int .i64 (B 5), .int .i64 (B 6), .int .i64 (B 7), .int .i64 (B 8), .int .i64 (B 9), .int .i64 (B 10), .int .i64 (B 11)] := ⟨rangeM hA, rangeM hB⟩
theorem sizeM (A : Nat → Int) : (Tryz.prog.info? 46).map (·.size) = some ([.int .i64 (A 0), .int .i64 (A 1), .int .i64 (A 2), .int .i64 (A 3), .int .i64 (A 4), .int .i64 (A 5), .int .i64 (A 6), .int .i64 (A 7), .int .i64 (A 8), .int .i64 (A 9), .int .i64 (A 10), .int .i64 (A 11)] : List Value).length := by kernel_rfl

theorem column_3 (M : Nat → Int) (w : World) :
    Calls Tryz.prog 108 #[.agg #[.int .i64 (M 0), .int .i64 (M 1), .int .i64 (M 2), .int .i64 (M 3), .int .i64 (M 4), .int .i64 (M 5), .int .i64 (M 6), .int .i64 (M 7), .int .i64 (M 8), .int .i64 (M 9), .int .i64 (M 10), .int .i64 (M 11)], .int .i64 3] w fun e w' => e = .returned (.agg #[.int .i64 (colM M 3 0), .int .i64 (colM M 3 1), .int .i64 (colM M 3 2)]) ∧ Below w.heap.size w w' := column_any M 3 w (by omega)

set_option maxHeartbeats 4000000 in
theorem pair_any (A B : Nat → Int) (w : World) :
    Calls Tryz.prog 93 #[.agg #[.int .i64 (A 0), .int .i64 (A 1), .int .i64 (A 2), .int .i64 (A 3), .int .i64 (A 4), .int .i64 (A 5), .int .i64 (A 6), .int .i64 (A 7), .int .i64 (A 8), .int .i64 (A 9), .int .i64 (A 10), .int .i64 (A 11)], .agg #[.int .i64 (B 0), .int .i64 (B 1), .int .i64 (B 2), .int .i64 (B 3), .int .i64 (B 4), .int .i64 (B 5), .int .i64 (B 6), .int .i64 (B 7), .int .i64 (B 8), .int .i64 (B 9), .int .i64 (B 10), .int .i64 (B 11)]] w fun e w' => e = .returned (.tuple #[.agg #[.int .i64 (prodM A B 0), .int .i64 (prodM A B 1), .int .i64 (prodM A B 2), .int .i64 (prodM A B 3), .int .i64 (prodM A B 4), .int .i64 (prodM A B 5), .int .i64 (prodM A B 6), .int .i64 (prodM A B 7), .int .i64 (prodM A B 8), .int .i64 (prodM A B 9), .int .i64 (prodM A B 10), .int .i64 (prodM A B 11)], .int .i64 (prodE2 A B)]) ∧ Below w.heap.size w w' := by
  go_enter Tryz.func93, Tryz.ntmps93
  go_wp2
  go_loopw [12] (fun i wr => ∃ r : Nat, r ≤ 3 ∧ i = .int .i64 r ∧ (∀ j, j < 4 * r → pE A B j = 0) ∧ wr.rowIs (w.heap.size + 3) 46 12 (laidTo (pV A B) (4 * r)) ∧ BM wr w.heap.size A ∧ BM wr (w.heap.size + 1) B ∧ Blk wr (w.heap.size + 2) 46 #[.int .i64 0, .int .i64 0, .int .i64 0, .int .i64 0, .int .i64 0, .int .i64 0, .int .i64 0, .int .i64 0, .int .i64 0, .int .i64 0, .int .i64 0, .int .i64 0] ∧ Below w.heap.size w wr) (fun i _ => 3 - (intOf i).toNat)
  case atStart => exact ⟨0, by omega, rfl, fun j hj => by omega, rowIs_at (laid12_start _ _ _) (by simp), (((Blk.new w _ _).alloc _).alloc _).alloc _, (blkAt (((Blk.new (w.alloc _) _ _).alloc _).alloc _) (by simp)), (blkAt ((Blk.new ((w.alloc _).alloc _) _ _).alloc _) (by simp)), balloc (balloc (balloc (alloc_below _ _) _) _) _⟩
  case round =>
    obtain ⟨r, hr3, rfl, hz, hrow, ha, hbm, hres, hb⟩ := hrel
    have HZ := Lib.hid hz
    have HRow := Lib.hid hrow
    have HA := Lib.hid ha
    have HBm := Lib.hid hbm
    have HRes := Lib.hid hres
    have HB := Lib.hid hb
    clear hz hrow ha hbm hres hb
    by_cases hr : r < 3
    · have hrd : decide ((r : Int) < 3) = true := by simp; omega
      go_wp2
      go_loopw [15] (fun i wi => ∃ p : Nat, p ≤ 4 ∧ i = .int .i64 p ∧ (∀ j, j < 4 * r + p → pE A B j = 0) ∧ wi.rowIs (w.heap.size + 3) 46 12 (laidTo (pV A B) (4 * r + p)) ∧ BM wi w.heap.size A ∧ BM wi (w.heap.size + 1) B ∧ Blk wi (w.heap.size + 2) 46 #[.int .i64 0, .int .i64 0, .int .i64 0, .int .i64 0, .int .i64 0, .int .i64 0, .int .i64 0, .int .i64 0, .int .i64 0, .int .i64 0, .int .i64 0, .int .i64 0] ∧ Below w.heap.size w wi) (fun i _ => 4 - (intOf i).toNat)
      case atStart => exact ⟨0, by omega, rfl, HZ.out, HRow.out, HA.out, HBm.out, HRes.out, HB.out⟩
      case round =>
        clear HZ HRow HA HBm HRes HB
        obtain ⟨p, hp4, rfl, hz, hrow, ha, hbm, hres, hb⟩ := hrel
        have HZ := Lib.hid hz
        have HRow := Lib.hid hrow
        have HA := Lib.hid ha
        have HBm := Lib.hid hbm
        have HRes := Lib.hid hres
        have HB := Lib.hid hb
        clear hz hrow ha hbm hres hb
        by_cases hp : p < 4
        · obtain ⟨n, hn⟩ : ∃ n, n = 4 * r + p := ⟨_, rfl⟩
          have HN := Lib.hid hn
          have hn12 : n < 12 := by omega
          clear hn
          have hp0 : (0 : Int) ≤ (p : Int) := by omega
          have hpd : (p : Int) < 4 := by omega
          have hn0 : (0 : Int) ≤ (n : Int) := by omega
          have hn1 : (n : Int) < 12 := by omega
          have hsA := sizeM A
          have hsB := sizeM B
          have hu := Tryz.underlying46
          obtain ⟨l, hl⟩ : ∃ l, l = pairL A r p := ⟨_, rfl⟩
          have HD : Hid (pV A B n = alV A r (colM B p) l ∧ pE A B n = alE A r (colM B p) l) := Lib.hid (by rw [HN.out, hl]; exact ⟨pV_at A B hp, pE_at A B hp⟩)
          by_cases h3 : p = 3
          · subst h3
            have hl' : l = A n := by rw [hl, HN.out]; rfl
            clear hl
            have cm := Blk.at12 HA.out hn12
            rw [← hl'] at cm
            clear hl'
            go_wp2_with fail
            refine (at3_of r n _ hr HN.out).mono ?_
            rintro e w1 ⟨rfl, rfl⟩
            go_wp2
            clear cm
            refine wp_region_held_drew (S := fun w' => w'.rangeAt w.heap.size 0 [.int .i64 (A 0), .int .i64 (A 1), .int .i64 (A 2), .int .i64 (A 3), .int .i64 (A 4), .int .i64 (A 5), .int .i64 (A 6), .int .i64 (A 7), .int .i64 (A 8), .int .i64 (A 9), .int .i64 (A 10), .int .i64 (A 11)] ∧ w'.rangeAt (w.heap.size + 1) 0 [.int .i64 (B 0), .int .i64 (B 1), .int .i64 (B 2), .int .i64 (B 3), .int .i64 (B 4), .int .i64 (B 5), .int .i64 (B 6), .int .i64 (B 7), .int .i64 (B 8), .int .i64 (B 9), .int .i64 (B 10), .int .i64 (B 11)]) (by kernel_rfl) (range2 (Blk.drew HA.out) (Blk.drew HBm.out)) (fun hHeld => ?_)
            refine wpAnyH_take (i := 0) (v := _) rfl (by kernel_rfl) (by kernel_rfl) (by kernel_rfl) (fun _ _ _ h => h) (yieldsIf_load_mid (by rfl) _ _ rfl _ _ rfl _ _ (fun _ h => h.1) hu rfl hsA) hHeld ?_
            simp only [Act.put, List.getElem_toArray, List.getElem_cons_zero, List.setIfInBounds_toArray, List.set_cons_zero, List.set_cons_succ]
            refine wpAnyH_take (i := 1) (v := ?_) rfl (by kernel_rfl) (by kernel_rfl) (by kernel_rfl) (fun _ _ _ h => h) (Or.inl ⟨by rfl, ?_⟩) hHeld ?_
            rotate_left
            · intro w hSw
              go_simp
              with_reducible rfl
            simp only [Act.put, List.getElem_toArray, List.getElem_cons_zero, List.getElem_cons_succ, List.setIfInBounds_toArray, List.set_cons_zero, List.set_cons_succ]
            refine wpAnyH_take (i := 2) (v := _) rfl (by kernel_rfl) (by kernel_rfl) (by kernel_rfl) (fun _ _ _ h => h) (yieldsIf_load_mid (by rfl) _ _ rfl _ _ rfl _ _ (fun _ h => h.2) hu rfl hsB) hHeld ?_
            simp only [Act.put, List.getElem_toArray, List.getElem_cons_zero, List.getElem_cons_succ, List.setIfInBounds_toArray, List.set_cons_zero, List.set_cons_succ]
            refine wpAnyH_take (i := 3) (v := ?_) rfl (by kernel_rfl) (by kernel_rfl) (by kernel_rfl) (fun _ _ _ h => h) (Or.inl ⟨by rfl, ?_⟩) hHeld ?_
            rotate_left
            · intro w hSw
              go_simp
              with_reducible rfl
            simp only [Act.put, List.getElem_toArray, List.getElem_cons_zero, List.getElem_cons_succ, List.setIfInBounds_toArray, List.set_cons_zero, List.set_cons_succ]
            refine wpAnyH_take (i := 5) (v := ?_) rfl (by kernel_rfl) (by kernel_rfl) (by kernel_rfl) (fun _ _ _ h => h) (Or.inl ⟨by rfl, ?_⟩) hHeld ?_
            rotate_left
            · intro w hSw
              go_simp
              with_reducible rfl
            simp only [Act.put, List.getElem_toArray, List.getElem_cons_zero, List.getElem_cons_succ, List.setIfInBounds_toArray, List.set_cons_zero, List.set_cons_succ]
            refine wpAnyH_ready (rs := [4]) (by kernel_rfl) (by simp) ?_
            refine AllReadyH.cons rfl (fun K hK => ?_) AllReadyH.nil
            go_simp
            go_at_call 108
            refine (column_3 B _).mono ?_
            rintro e w2 ⟨rfl, b2⟩
            go_wp2_with fail
            refine hK.out _ _ (range2 (Blk.keep HA.out (bdrew b2)) (Blk.keep HBm.out (bdrew b2))) (fun hHeld => ?_)
            clear hK K
            refine wpAnyH_ready (rs := [6]) (by kernel_rfl) (by simp) ?_
            refine AllReadyH.cons rfl (fun K hK => ?_) AllReadyH.nil
            go_simp
            go_at_call 107
            refine (along_any A r (colM B 3) l _ hr).mono ?_
            rintro e w3 ⟨rfl, b3⟩
            go_wp2_with fail
            refine hK.out _ _ (range2 (Blk.keep (Blk.keep HA.out (bdrew b2)) b3) (Blk.keep (Blk.keep HBm.out (bdrew b2)) b3)) (fun hHeld => ?_)
            clear hK K
            refine wpAnyH_take (i := 7) (v := ?_) rfl (by kernel_rfl) (by kernel_rfl) (by kernel_rfl) (fun _ _ _ h => h) (Or.inl ⟨by rfl, ?_⟩) hHeld ?_
            rotate_left
            · intro w hSw
              go_simp
              with_reducible rfl
            simp only [Act.put, List.getElem_toArray, List.getElem_cons_zero, List.getElem_cons_succ, List.setIfInBounds_toArray, List.set_cons_zero, List.set_cons_succ]
            refine wpAnyH_take (i := 8) (v := ?_) rfl (by kernel_rfl) (by kernel_rfl) (by kernel_rfl) (fun _ _ _ h => h) (Or.inl ⟨by rfl, ?_⟩) hHeld ?_
            rotate_left
            · intro w hSw
              go_simp
              with_reducible rfl
            simp only [Act.put, List.getElem_toArray, List.getElem_cons_zero, List.getElem_cons_succ, List.setIfInBounds_toArray, List.set_cons_zero, List.set_cons_succ]
            refine wpAnyH_take (i := 9) (v := ?_) rfl (by kernel_rfl) (by kernel_rfl) (by kernel_rfl) (fun _ _ _ h => h) (Or.inl ⟨by rfl, ?_⟩) hHeld ?_
            rotate_left
            · intro w hSw
              go_simp
              with_reducible rfl
            simp only [Act.put, List.getElem_toArray, List.getElem_cons_zero, List.getElem_cons_succ, List.setIfInBounds_toArray, List.set_cons_zero, List.set_cons_succ]
            refine wpAnyH_take (i := 10) (v := ?_) rfl (by kernel_rfl) (by kernel_rfl) (by kernel_rfl) (fun _ _ _ h => h) (Or.inl ⟨by rfl, ?_⟩) hHeld ?_
            rotate_left
            · intro w hSw
              go_simp
              with_reducible rfl
            simp only [Act.put, List.getElem_toArray, List.getElem_cons_zero, List.getElem_cons_succ, List.setIfInBounds_toArray, List.set_cons_zero, List.set_cons_succ]
            refine wpAnyH_take (i := 11) (v := ?_) rfl (by kernel_rfl) (by kernel_rfl) (by kernel_rfl) (fun _ _ _ h => h) (Or.inl ⟨by rfl, ?_⟩) hHeld ?_
            rotate_left
            · intro w hSw
              go_simp
              with_reducible rfl
            simp only [Act.put, List.getElem_toArray, List.getElem_cons_zero, List.getElem_cons_succ, List.setIfInBounds_toArray, List.set_cons_zero, List.set_cons_succ]
            refine wpAnyH_done (by kernel_rfl) ?_ _
            have B3 := Lib.hid (bthen (bdrew b2) b3)
            clear hHeld
            clear b2 b3
            have HRow2 := Lib.hid (HRow.out.of_block (B3.out.block _ HRow.out.lt))
            have HA2 := Lib.hid (Blk.keep HA.out B3.out)
            have HBm2 := Lib.hid (Blk.keep HBm.out B3.out)
            have HRes2 := Lib.hid (Blk.keep HRes.out B3.out)
            have HB2 := Lib.hid (bthen HB.out B3.out)
            clear B3 HRow HA HBm HRes HB
            obtain ⟨x, hx⟩ : ∃ x, x = alV A r (colM B 3) l := ⟨_, rfl⟩
            obtain ⟨y, hy⟩ : ∃ y, y = alE A r (colM B 3) l := ⟨_, rfl⟩
            rw [← hx, ← hy] at HD
            rw [← hx, ← hy]
            clear hx hy
            by_cases he : y = 0
            · have HEk := Lib.hid he
              have he' : (y != 0) = false := by rw [he]; rfl
              clear he
              have rc := HRow2.out.cell (i := n) (by omega)
              have rf := HRow2.out.frozen n
              have hnn : ¬ (n < 4 * r + 3) := by have := HN.out; omega
              unfold laidTo at rc
              rw [if_neg hnn] at rc
              clear hnn
              go_wp2_with fail
              refine (at3_of r n _ hr HN.out).mono ?_
              rintro e w4 ⟨rfl, rfl⟩
              go_wp2
              go_roundw
              case rel => exact ⟨3 + 1, by omega, by go_num, by rw [show 4 * r + (3 + 1) = n + 1 by have := HN.out; omega]; exact err_step (by rw [HN.out]; exact HZ.out) (by rw [HD.out.2]; exact HEk.out), (HRow2.out.set n _).congr (fun i _ => by rw [← HD.out.1, show 4 * r + (3 + 1) = n + 1 by have := HN.out; omega, show 4 * r + 3 = n from HN.out.symm]; exact laid_step _ n i), HA2.out.far (by simp <;> omega) _, HBm2.out.far (by simp <;> omega) _, HRes2.out.far (by simp) _, HB2.out.setCell (by simp <;> omega) _⟩
              case measure => simp [intOf] <;> omega
            · have HEk := Lib.hid he
              have he' : (y != 0) = true := by simpa using he
              clear he HRow2 HA2 HBm2
              obtain ⟨c0, c1, c2, c3, c4, c5, c6, c7, c8, c9, c10, c11, f0, f1, f2, f3, f4, f5, f6, f7, f8, f9, f10, f11⟩ := blk12 HRes2.out
              go_wp2
              have e1 : prodE2 A B = y := by
                rw [← HD.out.2]
                exact firstN_at (e := pE A B) (by rw [HN.out]; exact HZ.out) (by rw [HD.out.2]; exact HEk.out) hn12
              have e2 : prodE2 A B ≠ 0 := by rw [e1]; exact HEk.out
              exact bodyPost_ret (v := .tuple #[.agg #[.int .i64 0, .int .i64 0, .int .i64 0, .int .i64 0, .int .i64 0, .int .i64 0, .int .i64 0, .int .i64 0, .int .i64 0, .int .i64 0, .int .i64 0, .int .i64 0], .int .i64 y]) (by simp [results, Tryz.results93, go_sem, c0, c1, c2, c3, c4, c5, c6, c7, c8, c9, c10, c11]) rfl ⟨by rw [prod_no e2 0, prod_no e2 1, prod_no e2 2, prod_no e2 3, prod_no e2 4, prod_no e2 5, prod_no e2 6, prod_no e2 7, prod_no e2 8, prod_no e2 9, prod_no e2 10, prod_no e2 11, e1], bset12 HB2.out (by omega)⟩
          · have hl' : l = 0 := by rw [hl]; unfold pairL; rw [if_neg h3]
            clear hl
            subst hl'
            have hd1 : ((p : Int) == 3) = false := by simp; omega
            have hd2 : decide ((p : Int) = 3) = false := by simp; omega
            go_wp2
            refine wp_region_held_drew (S := fun w' => w'.rangeAt w.heap.size 0 [.int .i64 (A 0), .int .i64 (A 1), .int .i64 (A 2), .int .i64 (A 3), .int .i64 (A 4), .int .i64 (A 5), .int .i64 (A 6), .int .i64 (A 7), .int .i64 (A 8), .int .i64 (A 9), .int .i64 (A 10), .int .i64 (A 11)] ∧ w'.rangeAt (w.heap.size + 1) 0 [.int .i64 (B 0), .int .i64 (B 1), .int .i64 (B 2), .int .i64 (B 3), .int .i64 (B 4), .int .i64 (B 5), .int .i64 (B 6), .int .i64 (B 7), .int .i64 (B 8), .int .i64 (B 9), .int .i64 (B 10), .int .i64 (B 11)]) (by kernel_rfl) (range2 (Blk.drew HA.out) (Blk.drew HBm.out)) (fun hHeld => ?_)
            refine wpAnyH_take (i := 0) (v := _) rfl (by kernel_rfl) (by kernel_rfl) (by kernel_rfl) (fun _ _ _ h => h) (yieldsIf_load_mid (by rfl) _ _ rfl _ _ rfl _ _ (fun _ h => h.1) hu rfl hsA) hHeld ?_
            simp only [Act.put, List.getElem_toArray, List.getElem_cons_zero, List.setIfInBounds_toArray, List.set_cons_zero, List.set_cons_succ]
            refine wpAnyH_take (i := 1) (v := ?_) rfl (by kernel_rfl) (by kernel_rfl) (by kernel_rfl) (fun _ _ _ h => h) (Or.inl ⟨by rfl, ?_⟩) hHeld ?_
            rotate_left
            · intro w hSw
              go_simp
              with_reducible rfl
            simp only [Act.put, List.getElem_toArray, List.getElem_cons_zero, List.getElem_cons_succ, List.setIfInBounds_toArray, List.set_cons_zero, List.set_cons_succ]
            refine wpAnyH_take (i := 2) (v := _) rfl (by kernel_rfl) (by kernel_rfl) (by kernel_rfl) (fun _ _ _ h => h) (yieldsIf_load_mid (by rfl) _ _ rfl _ _ rfl _ _ (fun _ h => h.2) hu rfl hsB) hHeld ?_
            simp only [Act.put, List.getElem_toArray, List.getElem_cons_zero, List.getElem_cons_succ, List.setIfInBounds_toArray, List.set_cons_zero, List.set_cons_succ]
            refine wpAnyH_take (i := 3) (v := ?_) rfl (by kernel_rfl) (by kernel_rfl) (by kernel_rfl) (fun _ _ _ h => h) (Or.inl ⟨by rfl, ?_⟩) hHeld ?_
            rotate_left
            · intro w hSw
              go_simp
              with_reducible rfl
            simp only [Act.put, List.getElem_toArray, List.getElem_cons_zero, List.getElem_cons_succ, List.setIfInBounds_toArray, List.set_cons_zero, List.set_cons_succ]
            refine wpAnyH_take (i := 5) (v := ?_) rfl (by kernel_rfl) (by kernel_rfl) (by kernel_rfl) (fun _ _ _ h => h) (Or.inl ⟨by rfl, ?_⟩) hHeld ?_
            rotate_left
            · intro w hSw
              go_simp
              with_reducible rfl
            simp only [Act.put, List.getElem_toArray, List.getElem_cons_zero, List.getElem_cons_succ, List.setIfInBounds_toArray, List.set_cons_zero, List.set_cons_succ]
            refine wpAnyH_ready (rs := [4]) (by kernel_rfl) (by simp) ?_
            refine AllReadyH.cons rfl (fun K hK => ?_) AllReadyH.nil
            go_simp
            go_at_call 108
            refine (column_any B p _ hp).mono ?_
            rintro e w2 ⟨rfl, b2⟩
            go_wp2_with fail
            refine hK.out _ _ (range2 (Blk.keep HA.out (bdrew b2)) (Blk.keep HBm.out (bdrew b2))) (fun hHeld => ?_)
            clear hK K
            refine wpAnyH_ready (rs := [6]) (by kernel_rfl) (by simp) ?_
            refine AllReadyH.cons rfl (fun K hK => ?_) AllReadyH.nil
            go_simp
            go_at_call 107
            refine (along_any A r (colM B p) 0 _ hr).mono ?_
            rintro e w3 ⟨rfl, b3⟩
            go_wp2_with fail
            refine hK.out _ _ (range2 (Blk.keep (Blk.keep HA.out (bdrew b2)) b3) (Blk.keep (Blk.keep HBm.out (bdrew b2)) b3)) (fun hHeld => ?_)
            clear hK K
            refine wpAnyH_take (i := 7) (v := ?_) rfl (by kernel_rfl) (by kernel_rfl) (by kernel_rfl) (fun _ _ _ h => h) (Or.inl ⟨by rfl, ?_⟩) hHeld ?_
            rotate_left
            · intro w hSw
              go_simp
              with_reducible rfl
            simp only [Act.put, List.getElem_toArray, List.getElem_cons_zero, List.getElem_cons_succ, List.setIfInBounds_toArray, List.set_cons_zero, List.set_cons_succ]
            refine wpAnyH_take (i := 8) (v := ?_) rfl (by kernel_rfl) (by kernel_rfl) (by kernel_rfl) (fun _ _ _ h => h) (Or.inl ⟨by rfl, ?_⟩) hHeld ?_
            rotate_left
            · intro w hSw
              go_simp
              with_reducible rfl
            simp only [Act.put, List.getElem_toArray, List.getElem_cons_zero, List.getElem_cons_succ, List.setIfInBounds_toArray, List.set_cons_zero, List.set_cons_succ]
            refine wpAnyH_take (i := 9) (v := ?_) rfl (by kernel_rfl) (by kernel_rfl) (by kernel_rfl) (fun _ _ _ h => h) (Or.inl ⟨by rfl, ?_⟩) hHeld ?_
            rotate_left
            · intro w hSw
              go_simp
              with_reducible rfl
            simp only [Act.put, List.getElem_toArray, List.getElem_cons_zero, List.getElem_cons_succ, List.setIfInBounds_toArray, List.set_cons_zero, List.set_cons_succ]
            refine wpAnyH_take (i := 10) (v := ?_) rfl (by kernel_rfl) (by kernel_rfl) (by kernel_rfl) (fun _ _ _ h => h) (Or.inl ⟨by rfl, ?_⟩) hHeld ?_
            rotate_left
            · intro w hSw
              go_simp
              with_reducible rfl
            simp only [Act.put, List.getElem_toArray, List.getElem_cons_zero, List.getElem_cons_succ, List.setIfInBounds_toArray, List.set_cons_zero, List.set_cons_succ]
            refine wpAnyH_take (i := 11) (v := ?_) rfl (by kernel_rfl) (by kernel_rfl) (by kernel_rfl) (fun _ _ _ h => h) (Or.inl ⟨by rfl, ?_⟩) hHeld ?_
            rotate_left
            · intro w hSw
              go_simp
              with_reducible rfl
            simp only [Act.put, List.getElem_toArray, List.getElem_cons_zero, List.getElem_cons_succ, List.setIfInBounds_toArray, List.set_cons_zero, List.set_cons_succ]
            refine wpAnyH_done (by kernel_rfl) ?_ _
            have B3 := Lib.hid (bthen (bdrew b2) b3)
            clear hHeld
            clear b2 b3
            have HRow2 := Lib.hid (HRow.out.of_block (B3.out.block _ HRow.out.lt))
            have HA2 := Lib.hid (Blk.keep HA.out B3.out)
            have HBm2 := Lib.hid (Blk.keep HBm.out B3.out)
            have HRes2 := Lib.hid (Blk.keep HRes.out B3.out)
            have HB2 := Lib.hid (bthen HB.out B3.out)
            clear B3 HRow HA HBm HRes HB
            obtain ⟨x, hx⟩ : ∃ x, x = alV A r (colM B p) 0 := ⟨_, rfl⟩
            obtain ⟨y, hy⟩ : ∃ y, y = alE A r (colM B p) 0 := ⟨_, rfl⟩
            rw [← hx, ← hy] at HD
            rw [← hx, ← hy]
            clear hx hy
            by_cases he : y = 0
            · have HEk := Lib.hid he
              have he' : (y != 0) = false := by rw [he]; rfl
              clear he
              have rc := HRow2.out.cell (i := n) (by omega)
              have rf := HRow2.out.frozen n
              have hnn : ¬ (n < 4 * r + p) := by have := HN.out; omega
              unfold laidTo at rc
              rw [if_neg hnn] at rc
              clear hnn
              go_wp2_with fail
              refine (at_of r p n _ hr hp HN.out).mono ?_
              rintro e w4 ⟨rfl, rfl⟩
              go_wp2
              go_roundw
              case rel => exact ⟨p + 1, by omega, by go_num, by rw [show 4 * r + (p + 1) = n + 1 by have := HN.out; omega]; exact err_step (by rw [HN.out]; exact HZ.out) (by rw [HD.out.2]; exact HEk.out), (HRow2.out.set n _).congr (fun i _ => by rw [← HD.out.1, show 4 * r + (p + 1) = n + 1 by have := HN.out; omega, show 4 * r + p = n from HN.out.symm]; exact laid_step _ n i), HA2.out.far (by simp <;> omega) _, HBm2.out.far (by simp <;> omega) _, HRes2.out.far (by simp) _, HB2.out.setCell (by simp <;> omega) _⟩
              case measure => simp [intOf] <;> omega
            · have HEk := Lib.hid he
              have he' : (y != 0) = true := by simpa using he
              clear he HRow2 HA2 HBm2
              obtain ⟨c0, c1, c2, c3, c4, c5, c6, c7, c8, c9, c10, c11, f0, f1, f2, f3, f4, f5, f6, f7, f8, f9, f10, f11⟩ := blk12 HRes2.out
              go_wp2
              have e1 : prodE2 A B = y := by
                rw [← HD.out.2]
                exact firstN_at (e := pE A B) (by rw [HN.out]; exact HZ.out) (by rw [HD.out.2]; exact HEk.out) hn12
              have e2 : prodE2 A B ≠ 0 := by rw [e1]; exact HEk.out
              exact bodyPost_ret (v := .tuple #[.agg #[.int .i64 0, .int .i64 0, .int .i64 0, .int .i64 0, .int .i64 0, .int .i64 0, .int .i64 0, .int .i64 0, .int .i64 0, .int .i64 0, .int .i64 0, .int .i64 0], .int .i64 y]) (by simp [results, Tryz.results93, go_sem, c0, c1, c2, c3, c4, c5, c6, c7, c8, c9, c10, c11]) rfl ⟨by rw [prod_no e2 0, prod_no e2 1, prod_no e2 2, prod_no e2 3, prod_no e2 4, prod_no e2 5, prod_no e2 6, prod_no e2 7, prod_no e2 8, prod_no e2 9, prod_no e2 10, prod_no e2 11, e1], bset12 HB2.out (by omega)⟩
        · obtain rfl : p = 4 := by omega
          go_wp2
          go_roundw
          case rel => exact ⟨r + 1, by omega, by go_num, HZ.out, HRow.out, HA.out, HBm.out, HRes.out, HB.out⟩
          case measure => simp [intOf] <;> omega
    · obtain rfl : r = 3 := by omega
      have hE : prodE2 A B = 0 := firstN_none HZ.out
      have HE := Lib.hid hE
      clear hE
      have hm : Blk wr (w.heap.size + 3) 46 #[.int .i64 (pV A B 0), .int .i64 (pV A B 1), .int .i64 (pV A B 2), .int .i64 (pV A B 3), .int .i64 (pV A B 4), .int .i64 (pV A B 5), .int .i64 (pV A B 6), .int .i64 (pV A B 7), .int .i64 (pV A B 8), .int .i64 (pV A B 9), .int .i64 (pV A B 10), .int .i64 (pV A B 11)] := blk_of_row HRow.out
      clear HZ HRow HA HBm
      obtain ⟨o0, o1, o2, o3, o4, o5, o6, o7, o8, o9, o10, o11, _, _, _, _, _, _, _, _, _, _, _, _⟩ := blk12 hm
      obtain ⟨c0, c1, c2, c3, c4, c5, c6, c7, c8, c9, c10, c11, f0, f1, f2, f3, f4, f5, f6, f7, f8, f9, f10, f11⟩ := blk12 HRes.out
      clear hm
      go_wp2
      exact bodyPost_ret (v := .tuple #[.agg #[.int .i64 (pV A B 0), .int .i64 (pV A B 1), .int .i64 (pV A B 2), .int .i64 (pV A B 3), .int .i64 (pV A B 4), .int .i64 (pV A B 5), .int .i64 (pV A B 6), .int .i64 (pV A B 7), .int .i64 (pV A B 8), .int .i64 (pV A B 9), .int .i64 (pV A B 10), .int .i64 (pV A B 11)], .int .i64 0]) (by simp [results, Tryz.results93, go_sem, c0, c1, c2, c3, c4, c5, c6, c7, c8, c9, c10, c11]) rfl ⟨by rw [prod_ok HE.out 0, prod_ok HE.out 1, prod_ok HE.out 2, prod_ok HE.out 3, prod_ok HE.out 4, prod_ok HE.out 5, prod_ok HE.out 6, prod_ok HE.out 7, prod_ok HE.out 8, prod_ok HE.out 9, prod_ok HE.out 10, prod_ok HE.out 11, HE.out], bset12 HB.out (by omega)⟩

end Go.Proofs.YtdndafdninnjfaaGreat
/-
  What the reference's Two of layer 3 answers, of two matrices that may be.
-/
namespace Go.Proofs.YtdndafdninnjfaaGreat
open Go.RowKit

def v3 (x y z : Int) (j : Nat) : Int := [x, y, z].getD j 0
theorem rsum_xyz (M : Nat → Int) (r : Nat) (x y z l : Int) (w : World) (hr : r < 3) :
    Calls Tryz.prog 95 #[.agg #[.int .i64 (M 0), .int .i64 (M 1), .int .i64 (M 2), .int .i64 (M 3), .int .i64 (M 4), .int .i64 (M 5), .int .i64 (M 6), .int .i64 (M 7), .int .i64 (M 8), .int .i64 (M 9), .int .i64 (M 10), .int .i64 (M 11)], .int .i64 r, .agg #[.int .i64 x, .int .i64 y, .int .i64 z], .int .i64 l] w fun e w' => e = .returned (.tuple #[.int .i64 (alV M r (v3 x y z) l), .int .i64 (alE M r (v3 x y z) l)]) ∧ Below w.heap.size w w' := rsum_any M r (v3 x y z) l w hr

set_option maxHeartbeats 4000000 in
set_option maxRecDepth 100000 in
theorem rtwo_yes (A B : Nat → Int) (w : World) (okA : okM A = true) (okB' : okM B = true) :
    Calls Tryz.prog 74 #[.agg #[.int .i64 (A 0), .int .i64 (A 1), .int .i64 (A 2), .int .i64 (A 3), .int .i64 (A 4), .int .i64 (A 5), .int .i64 (A 6), .int .i64 (A 7), .int .i64 (A 8), .int .i64 (A 9), .int .i64 (A 10), .int .i64 (A 11)], .agg #[.int .i64 (B 0), .int .i64 (B 1), .int .i64 (B 2), .int .i64 (B 3), .int .i64 (B 4), .int .i64 (B 5), .int .i64 (B 6), .int .i64 (B 7), .int .i64 (B 8), .int .i64 (B 9), .int .i64 (B 10), .int .i64 (B 11)]] w fun e w' => e = .returned (.tuple #[.agg #[.int .i64 (prodM A B 0), .int .i64 (prodM A B 1), .int .i64 (prodM A B 2), .int .i64 (prodM A B 3), .int .i64 (prodM A B 4), .int .i64 (prodM A B 5), .int .i64 (prodM A B 6), .int .i64 (prodM A B 7), .int .i64 (prodM A B 8), .int .i64 (prodM A B 9), .int .i64 (prodM A B 10), .int .i64 (prodM A B 11)], .int .i64 (prodE2 A B)]) ∧ Below w.heap.size w w' := by
  have HO := Lib.hid (And.intro okA okB')
  clear okA okB'
  go_enter Tryz.func74, Tryz.ntmps74
  go_wp2_with fail
  refine (rmright_yes HO.out.1 _).mono ?_
  rintro e w1 ⟨rfl, b1⟩
  have KA := Lib.hid ((((Blk.new w 46 _).alloc _).alloc _).alloc _ |>.keep b1)
  have KB := Lib.hid (blkAt ((((Blk.new (w.alloc _) 46 _).alloc _).alloc _).keep b1) (g' := w.heap.size + 1) (by simp))
  have KR := Lib.hid (blkAt (((Blk.new ((w.alloc _).alloc _) 46 _).alloc _).keep b1) (g' := w.heap.size + 2) (by simp))
  have KO := Lib.hid ((laid12_start (((w.alloc (.cells #[.int .i64 (A 0), .int .i64 (A 1), .int .i64 (A 2), .int .i64 (A 3), .int .i64 (A 4), .int .i64 (A 5), .int .i64 (A 6), .int .i64 (A 7), .int .i64 (A 8), .int .i64 (A 9), .int .i64 (A 10), .int .i64 (A 11)] 46)).alloc (.cells #[.int .i64 (B 0), .int .i64 (B 1), .int .i64 (B 2), .int .i64 (B 3), .int .i64 (B 4), .int .i64 (B 5), .int .i64 (B 6), .int .i64 (B 7), .int .i64 (B 8), .int .i64 (B 9), .int .i64 (B 10), .int .i64 (B 11)] 46)).alloc (.cells #[.int .i64 0, .int .i64 0, .int .i64 0, .int .i64 0, .int .i64 0, .int .i64 0, .int .i64 0, .int .i64 0, .int .i64 0, .int .i64 0, .int .i64 0, .int .i64 0] 46)) 46 (pV A B)).of_block (b1.block _ (by simp)))
  have B1 := Lib.hid (bthen (balloc (balloc (balloc (alloc_below _ _) _) _) _) b1)
  clear b1
  obtain ⟨c0, c1, c2, c3, c4, c5, c6, c7, c8, c9, c10, c11, _, _, _, _, _, _, _, _, _, _, _, _⟩ := blk12 KB.out
  go_wp2_with fail
  refine (rmright_yes HO.out.2 _).mono ?_
  rintro e w2 ⟨rfl, b2⟩
  replace KA := Lib.hid (KA.out.keep b2)
  replace KB := Lib.hid (KB.out.keep b2)
  replace KR := Lib.hid (KR.out.keep b2)
  replace KO := Lib.hid (KO.out.of_block (b2.block _ KO.out.lt))
  replace B1 := Lib.hid (bthen B1.out b2)
  clear b2
  clear c0 c1 c2 c3 c4 c5 c6 c7 c8 c9 c10 c11
  go_wp2
  go_loopw [9] (fun i wr => ∃ r : Nat, r ≤ 3 ∧ i = .int .i64 r ∧ (∀ j, j < 4 * r → pE A B j = 0) ∧ wr.rowIs (w.heap.size + 3) 46 12 (laidTo (pV A B) (4 * r)) ∧ BM wr w.heap.size A ∧ BM wr (w.heap.size + 1) B ∧ Blk wr (w.heap.size + 2) 46 #[.int .i64 0, .int .i64 0, .int .i64 0, .int .i64 0, .int .i64 0, .int .i64 0, .int .i64 0, .int .i64 0, .int .i64 0, .int .i64 0, .int .i64 0, .int .i64 0] ∧ Below w.heap.size w wr) (fun i _ => 3 - (intOf i).toNat)
  case atStart => exact ⟨0, by omega, rfl, fun j hj => by omega, rowIs_at KO.out (by simp), KA.out, KB.out, KR.out, B1.out⟩
  case round =>
    clear KA KB KR KO B1
    obtain ⟨r, hr3, rfl, hz, hrow, ha, hbm, hres, hb⟩ := hrel
    have HZ := Lib.hid hz
    have HRow := Lib.hid hrow
    have HA := Lib.hid ha
    have HBm := Lib.hid hbm
    have HRes := Lib.hid hres
    have HB := Lib.hid hb
    clear hz hrow ha hbm hres hb
    by_cases hr : r < 3
    · have hrd : decide ((r : Int) < 3) = true := by simp; omega
      go_wp2
      go_loopw [10] (fun i wi => ∃ p : Nat, p ≤ 4 ∧ i = .int .i64 p ∧ (∀ j, j < 4 * r + p → pE A B j = 0) ∧ wi.rowIs (w.heap.size + 3) 46 12 (laidTo (pV A B) (4 * r + p)) ∧ BM wi w.heap.size A ∧ BM wi (w.heap.size + 1) B ∧ Blk wi (w.heap.size + 2) 46 #[.int .i64 0, .int .i64 0, .int .i64 0, .int .i64 0, .int .i64 0, .int .i64 0, .int .i64 0, .int .i64 0, .int .i64 0, .int .i64 0, .int .i64 0, .int .i64 0] ∧ Below w.heap.size w wi) (fun i _ => 4 - (intOf i).toNat)
      case atStart => exact ⟨0, by omega, rfl, HZ.out, HRow.out, HA.out, HBm.out, HRes.out, HB.out⟩
      case round =>
        clear HZ HRow HA HBm HRes HB
        obtain ⟨p, hp4, rfl, hz, hrow, ha, hbm, hres, hb⟩ := hrel
        have HZ := Lib.hid hz
        have HRow := Lib.hid hrow
        have HA := Lib.hid ha
        have HBm := Lib.hid hbm
        have HRes := Lib.hid hres
        have HB := Lib.hid hb
        clear hz hrow ha hbm hres hb
        by_cases hp : p < 4
        · obtain ⟨n, hn⟩ : ∃ n, n = 4 * r + p := ⟨_, rfl⟩
          have HN := Lib.hid hn
          have hn12 : n < 12 := by omega
          clear hn
          have hp0 : (0 : Int) ≤ (p : Int) := by omega
          have hpd : (p : Int) < 4 := by omega
          have hn0 : (0 : Int) ≤ (n : Int) := by omega
          have hn1 : (n : Int) < 12 := by omega
          have hw1 : IntKind.i64.wrap (4 * (r : Int)) = 4 * (r : Int) := IntWalk.i64_in _ (by omega)
          have hw2 : IntKind.i64.wrap (4 * (r : Int) + (p : Int)) = (n : Int) := by rw [show 4 * (r : Int) + (p : Int) = (n : Int) by have := HN.out; omega]; exact IntWalk.i64_in _ (by omega)
          have hsA := sizeM A
          have hu := Tryz.underlying46
          obtain ⟨l, hl⟩ : ∃ l, l = pairL A r p := ⟨_, rfl⟩
          obtain ⟨x, hx⟩ : ∃ x, x = colM B p 0 := ⟨_, rfl⟩
          obtain ⟨y, hy⟩ : ∃ y, y = colM B p 1 := ⟨_, rfl⟩
          obtain ⟨z, hz⟩ : ∃ z, z = colM B p 2 := ⟨_, rfl⟩
          have HD : Hid (pV A B n = alV A r (v3 x y z) l ∧ pE A B n = alE A r (v3 x y z) l) := Lib.hid (by rw [HN.out, hl, hx, hy, hz]; exact ⟨pV_at A B hp, pE_at A B hp⟩)
          by_cases h3 : p = 3
          · subst h3
            have hw5 : IntKind.i64.wrap (4 * (r : Int) + 3) = (n : Int) := by rw [show 4 * (r : Int) + 3 = (n : Int) by have := HN.out; omega]; exact IntWalk.i64_in _ (by omega)
            clear hw2
            have hwa : IntKind.i64.wrap 7 = 7 := IntWalk.i64_in _ (by omega)
            have hwb : IntKind.i64.wrap 11 = 11 := IntWalk.i64_in _ (by omega)
            have hl' : l = A n := by rw [hl, HN.out]; rfl
            have cm := Blk.at12 HA.out hn12
            rw [← hl'] at cm
            have cx : wr.cell? ⟨w.heap.size + 1, 3, none⟩ = some (.int .i64 x) := by rw [hx]; exact Blk.at12 HBm.out (k := 3) (by omega)
            have cy : wr.cell? ⟨w.heap.size + 1, 7, none⟩ = some (.int .i64 y) := by rw [hy]; exact Blk.at12 HBm.out (k := 7) (by omega)
            have cz : wr.cell? ⟨w.heap.size + 1, 11, none⟩ = some (.int .i64 z) := by rw [hz]; exact Blk.at12 HBm.out (k := 11) (by omega)
            clear hl' hl hx hy hz
            go_wp2
            clear cm
            go_region_held3 (fun w' => w'.rangeAt w.heap.size 0 [.int .i64 (A 0), .int .i64 (A 1), .int .i64 (A 2), .int .i64 (A 3), .int .i64 (A 4), .int .i64 (A 5), .int .i64 (A 6), .int .i64 (A 7), .int .i64 (A 8), .int .i64 (A 9), .int .i64 (A 10), .int .i64 (A 11)] ∧ w'.cell? ⟨w.heap.size + 1, 3, none⟩ = some (.int .i64 x) ∧ w'.cell? ⟨w.heap.size + 1, 7, none⟩ = some (.int .i64 y) ∧ w'.cell? ⟨w.heap.size + 1, 11, none⟩ = some (.int .i64 z)) (first | exact ⟨rangeM (Blk.keep HA.out (bdrew b3)), cell_keepD b3 cx, cell_keepD b3 cy, cell_keepD b3 cz⟩ | exact ⟨rangeM (Blk.drew HA.out), cx, cy, cz⟩)
              (first | (go_at_call 95; refine (rsum_xyz A r x y z l _ hr).mono ?_; rintro e w3 ⟨rfl, b3⟩))
            have B3 := Lib.hid (bdrew b3)
            clear b3 cx cy cz
            have HRow2 := Lib.hid (HRow.out.of_block (B3.out.block _ HRow.out.lt))
            have HA2 := Lib.hid (Blk.keep HA.out B3.out)
            have HBm2 := Lib.hid (Blk.keep HBm.out B3.out)
            have HRes2 := Lib.hid (Blk.keep HRes.out B3.out)
            have HB2 := Lib.hid (bthen HB.out B3.out)
            clear B3 HRow HA HBm HRes HB
            obtain ⟨u, hx⟩ : ∃ u, u = alV A r (v3 x y z) l := ⟨_, rfl⟩
            obtain ⟨v, hy⟩ : ∃ v, v = alE A r (v3 x y z) l := ⟨_, rfl⟩
            rw [← hx, ← hy] at HD
            rw [← hx, ← hy]
            clear hx hy
            by_cases he : v = 0
            · have HEk := Lib.hid he
              have he' : (v != 0) = false := by rw [he]; rfl
              clear he
              have rc := HRow2.out.cell (i := n) (by omega)
              have rf := HRow2.out.frozen n
              have hnn : ¬ (n < 4 * r + 3) := by have := HN.out; omega
              unfold laidTo at rc
              rw [if_neg hnn] at rc
              clear hnn
              go_wp2
              go_roundw
              case rel => exact ⟨3 + 1, by omega, by go_num, by rw [show 4 * r + (3 + 1) = n + 1 by have := HN.out; omega]; exact err_step (by rw [HN.out]; exact HZ.out) (by rw [HD.out.2]; exact HEk.out), (HRow2.out.set n _).congr (fun i _ => by rw [← HD.out.1, show 4 * r + (3 + 1) = n + 1 by have := HN.out; omega, show 4 * r + 3 = n from HN.out.symm]; exact laid_step _ n i), HA2.out.far (by simp <;> omega) _, HBm2.out.far (by simp <;> omega) _, HRes2.out.far (by simp) _, HB2.out.setCell (by simp <;> omega) _⟩
              case measure => simp [intOf] <;> omega
            · have HEk := Lib.hid he
              have he' : (v != 0) = true := by simpa using he
              clear he HRow2 HA2 HBm2
              obtain ⟨c0, c1, c2, c3, c4, c5, c6, c7, c8, c9, c10, c11, f0, f1, f2, f3, f4, f5, f6, f7, f8, f9, f10, f11⟩ := blk12 HRes2.out
              go_wp2
              have e1 : prodE2 A B = v := by
                rw [← HD.out.2]
                exact firstN_at (e := pE A B) (by rw [HN.out]; exact HZ.out) (by rw [HD.out.2]; exact HEk.out) hn12
              have e2 : prodE2 A B ≠ 0 := by rw [e1]; exact HEk.out
              exact bodyPost_ret (v := .tuple #[.agg #[.int .i64 0, .int .i64 0, .int .i64 0, .int .i64 0, .int .i64 0, .int .i64 0, .int .i64 0, .int .i64 0, .int .i64 0, .int .i64 0, .int .i64 0, .int .i64 0], .int .i64 v]) (by simp [results, Tryz.results74, go_sem, c0, c1, c2, c3, c4, c5, c6, c7, c8, c9, c10, c11]) rfl ⟨by rw [prod_no e2 0, prod_no e2 1, prod_no e2 2, prod_no e2 3, prod_no e2 4, prod_no e2 5, prod_no e2 6, prod_no e2 7, prod_no e2 8, prod_no e2 9, prod_no e2 10, prod_no e2 11, e1], bset12 HB2.out (by omega)⟩
          · have hl' : l = 0 := by rw [hl]; unfold pairL; rw [if_neg h3]
            have hd1 : ((p : Int) == 3) = false := by simp; omega
            have hd2 : decide ((p : Int) = 3) = false := by simp; omega
            obtain ⟨q, hq⟩ : ∃ q, q = 4 + p := ⟨_, rfl⟩
            obtain ⟨s, hs⟩ : ∃ s, s = 8 + p := ⟨_, rfl⟩
            have hw3 : IntKind.i64.wrap (4 + (p : Int)) = (q : Int) := by rw [show 4 + (p : Int) = (q : Int) by omega]; exact IntWalk.i64_in _ (by omega)
            have hw4 : IntKind.i64.wrap (8 + (p : Int)) = (s : Int) := by rw [show 8 + (p : Int) = (s : Int) by omega]; exact IntWalk.i64_in _ (by omega)
            have hq0 : (0 : Int) ≤ (q : Int) := by omega
            have hq1 : (q : Int) < 12 := by omega
            have hs0 : (0 : Int) ≤ (s : Int) := by omega
            have hs1 : (s : Int) < 12 := by omega
            have hp12 : (p : Int) < 12 := by omega
            have cx : wr.cell? ⟨w.heap.size + 1, p, none⟩ = some (.int .i64 x) := by rw [hx, show colM B p 0 = B p by unfold colM; rw [Nat.mul_zero, Nat.zero_add]]; exact Blk.at12 HBm.out (by omega)
            have cy : wr.cell? ⟨w.heap.size + 1, q, none⟩ = some (.int .i64 y) := by rw [hy, show colM B p 1 = B q by unfold colM; rw [hq]]; exact Blk.at12 HBm.out (by omega)
            have cz : wr.cell? ⟨w.heap.size + 1, s, none⟩ = some (.int .i64 z) := by rw [hz, show colM B p 2 = B s by unfold colM; rw [hs]]; exact Blk.at12 HBm.out (by omega)
            clear hl hx hy hz hq hs
            subst hl'
            go_wp2
            go_region_held3 (fun w' => w'.rangeAt w.heap.size 0 [.int .i64 (A 0), .int .i64 (A 1), .int .i64 (A 2), .int .i64 (A 3), .int .i64 (A 4), .int .i64 (A 5), .int .i64 (A 6), .int .i64 (A 7), .int .i64 (A 8), .int .i64 (A 9), .int .i64 (A 10), .int .i64 (A 11)] ∧ w'.cell? ⟨w.heap.size + 1, p, none⟩ = some (.int .i64 x) ∧ w'.cell? ⟨w.heap.size + 1, q, none⟩ = some (.int .i64 y) ∧ w'.cell? ⟨w.heap.size + 1, s, none⟩ = some (.int .i64 z)) (first | exact ⟨rangeM (Blk.keep HA.out (bdrew b3)), cell_keepD b3 cx, cell_keepD b3 cy, cell_keepD b3 cz⟩ | exact ⟨rangeM (Blk.drew HA.out), cx, cy, cz⟩)
              (first | (go_at_call 95; refine (rsum_xyz A r x y z 0 _ hr).mono ?_; rintro e w3 ⟨rfl, b3⟩))
            have B3 := Lib.hid (bdrew b3)
            clear b3 cx cy cz
            have HRow2 := Lib.hid (HRow.out.of_block (B3.out.block _ HRow.out.lt))
            have HA2 := Lib.hid (Blk.keep HA.out B3.out)
            have HBm2 := Lib.hid (Blk.keep HBm.out B3.out)
            have HRes2 := Lib.hid (Blk.keep HRes.out B3.out)
            have HB2 := Lib.hid (bthen HB.out B3.out)
            clear B3 HRow HA HBm HRes HB
            obtain ⟨u, hx⟩ : ∃ u, u = alV A r (v3 x y z) 0 := ⟨_, rfl⟩
            obtain ⟨v, hy⟩ : ∃ v, v = alE A r (v3 x y z) 0 := ⟨_, rfl⟩
            rw [← hx, ← hy] at HD
            rw [← hx, ← hy]
            clear hx hy
            by_cases he : v = 0
            · have HEk := Lib.hid he
              have he' : (v != 0) = false := by rw [he]; rfl
              clear he
              have rc := HRow2.out.cell (i := n) (by omega)
              have rf := HRow2.out.frozen n
              have hnn : ¬ (n < 4 * r + p) := by have := HN.out; omega
              unfold laidTo at rc
              rw [if_neg hnn] at rc
              clear hnn
              go_wp2
              go_roundw
              case rel => exact ⟨p + 1, by omega, by go_num, by rw [show 4 * r + (p + 1) = n + 1 by have := HN.out; omega]; exact err_step (by rw [HN.out]; exact HZ.out) (by rw [HD.out.2]; exact HEk.out), (HRow2.out.set n _).congr (fun i _ => by rw [← HD.out.1, show 4 * r + (p + 1) = n + 1 by have := HN.out; omega, show 4 * r + p = n from HN.out.symm]; exact laid_step _ n i), HA2.out.far (by simp <;> omega) _, HBm2.out.far (by simp <;> omega) _, HRes2.out.far (by simp) _, HB2.out.setCell (by simp <;> omega) _⟩
              case measure => simp [intOf] <;> omega
            · have HEk := Lib.hid he
              have he' : (v != 0) = true := by simpa using he
              clear he HRow2 HA2 HBm2
              obtain ⟨c0, c1, c2, c3, c4, c5, c6, c7, c8, c9, c10, c11, f0, f1, f2, f3, f4, f5, f6, f7, f8, f9, f10, f11⟩ := blk12 HRes2.out
              go_wp2
              have e1 : prodE2 A B = v := by
                rw [← HD.out.2]
                exact firstN_at (e := pE A B) (by rw [HN.out]; exact HZ.out) (by rw [HD.out.2]; exact HEk.out) hn12
              have e2 : prodE2 A B ≠ 0 := by rw [e1]; exact HEk.out
              exact bodyPost_ret (v := .tuple #[.agg #[.int .i64 0, .int .i64 0, .int .i64 0, .int .i64 0, .int .i64 0, .int .i64 0, .int .i64 0, .int .i64 0, .int .i64 0, .int .i64 0, .int .i64 0, .int .i64 0], .int .i64 v]) (by simp [results, Tryz.results74, go_sem, c0, c1, c2, c3, c4, c5, c6, c7, c8, c9, c10, c11]) rfl ⟨by rw [prod_no e2 0, prod_no e2 1, prod_no e2 2, prod_no e2 3, prod_no e2 4, prod_no e2 5, prod_no e2 6, prod_no e2 7, prod_no e2 8, prod_no e2 9, prod_no e2 10, prod_no e2 11, e1], bset12 HB2.out (by omega)⟩
        · obtain rfl : p = 4 := by omega
          go_wp2
          go_roundw
          case rel => exact ⟨r + 1, by omega, by go_num, HZ.out, HRow.out, HA.out, HBm.out, HRes.out, HB.out⟩
          case measure => simp [intOf]; omega
    · obtain rfl : r = 3 := by omega
      have hE : prodE2 A B = 0 := firstN_none HZ.out
      have HE := Lib.hid hE
      clear hE
      have hm : Blk wr (w.heap.size + 3) 46 #[.int .i64 (pV A B 0), .int .i64 (pV A B 1), .int .i64 (pV A B 2), .int .i64 (pV A B 3), .int .i64 (pV A B 4), .int .i64 (pV A B 5), .int .i64 (pV A B 6), .int .i64 (pV A B 7), .int .i64 (pV A B 8), .int .i64 (pV A B 9), .int .i64 (pV A B 10), .int .i64 (pV A B 11)] := blk_of_row HRow.out
      clear HZ HRow HA HBm
      obtain ⟨o0, o1, o2, o3, o4, o5, o6, o7, o8, o9, o10, o11, _, _, _, _, _, _, _, _, _, _, _, _⟩ := blk12 hm
      obtain ⟨c0, c1, c2, c3, c4, c5, c6, c7, c8, c9, c10, c11, f0, f1, f2, f3, f4, f5, f6, f7, f8, f9, f10, f11⟩ := blk12 HRes.out
      clear hm
      go_wp2
      exact bodyPost_ret (v := .tuple #[.agg #[.int .i64 (pV A B 0), .int .i64 (pV A B 1), .int .i64 (pV A B 2), .int .i64 (pV A B 3), .int .i64 (pV A B 4), .int .i64 (pV A B 5), .int .i64 (pV A B 6), .int .i64 (pV A B 7), .int .i64 (pV A B 8), .int .i64 (pV A B 9), .int .i64 (pV A B 10), .int .i64 (pV A B 11)], .int .i64 0]) (by simp [results, Tryz.results74, go_sem, c0, c1, c2, c3, c4, c5, c6, c7, c8, c9, c10, c11]) rfl ⟨by rw [prod_ok HE.out 0, prod_ok HE.out 1, prod_ok HE.out 2, prod_ok HE.out 3, prod_ok HE.out 4, prod_ok HE.out 5, prod_ok HE.out 6, prod_ok HE.out 7, prod_ok HE.out 8, prod_ok HE.out 9, prod_ok HE.out 10, prod_ok HE.out 11, HE.out], bset12 HB.out (by omega)⟩

end Go.Proofs.YtdndafdninnjfaaGreat
/-
  What package affine's Apply answers, and the reference's.
-/
namespace Go.Proofs.YtdndafdninnjfaaGreat
open Go.RowKit

end Go.Proofs.YtdndafdninnjfaaGreat
/-
  What the reference's Apply of layer 3 answers.
-/
namespace Go.Proofs.YtdndafdninnjfaaGreat
open Go.RowKit

end Go.Proofs.YtdndafdninnjfaaGreat
/-
  What package affine's Mul answers: the product of a list of matrices.
-/
namespace Go.Proofs.YtdndafdninnjfaaGreat
open Go.RowKit

/-- the product from P on, and the first error -/
def foldM (P : Nat → Int) : List (Nat → Int) → (Nat → Int) × Int
  | [] => (P, 0)
  | M :: Ms => if prodE2 P M = 0 then foldM (prodM P M) Ms else (zeroM, prodE2 P M)
/-- the product of a list, and the error -/
def mulMs (Ms : List (Nat → Int)) : (Nat → Int) × Int :=
  if rightM Ms then (match Ms with | [] => (sameM, 0) | M :: Ms => foldM M Ms) else (zeroM, 1)
theorem mulMs_no {Ms : List (Nat → Int)} (h : rightM Ms = false) : mulMs Ms = (zeroM, 1) := by unfold mulMs; rw [h]; rfl
theorem mulMs_cons {M : Nat → Int} {Ms : List (Nat → Int)} (h : rightM (M :: Ms) = true) : mulMs (M :: Ms) = foldM M Ms := by unfold mulMs; rw [h]; rfl
theorem foldM_ok {P M : Nat → Int} {Ms : List (Nat → Int)} {k : Nat} (h : Ms[k]? = some M) (he : prodE2 P M = 0) : foldM P (Ms.drop k) = foldM (prodM P M) (Ms.drop (k + 1)) := by
  obtain ⟨hk, e⟩ := List.getElem?_eq_some_iff.1 h
  rw [List.drop_eq_getElem_cons hk, e]
  show (if prodE2 P M = 0 then _ else _) = _
  rw [if_pos he]
theorem foldM_no {P M : Nat → Int} {Ms : List (Nat → Int)} {k : Nat} (h : Ms[k]? = some M) (he : prodE2 P M ≠ 0) : foldM P (Ms.drop k) = (zeroM, prodE2 P M) := by
  obtain ⟨hk, e⟩ := List.getElem?_eq_some_iff.1 h
  rw [List.drop_eq_getElem_cons hk, e]
  show (if prodE2 P M = 0 then _ else _) = _
  rw [if_neg he]

theorem mright_b {a : Option Addr} {len cap : Nat} {Ms : List (Nat → Int)} {w : World} {b : Bool} (hr : rightM Ms = b) (row : MRow w a len Ms) :
    Calls Tryz.prog 58 #[.slice a len cap] w fun e w' => e = .returned (.bool b) ∧ Below w.heap.size w w' :=
  (mright_any a len cap Ms w row).mono fun _ _ ⟨he, hw⟩ => ⟨by rw [he, hr], hw⟩

/-- the cells of a slice of matrices, and of what is behind the first one -/
theorem MRow.tail {w : World} {b off n : Nat} {M : Nat → Int} {Ms : List (Nat → Int)} (h : MRow w (some ⟨b, off, none⟩) (n + 1) (M :: Ms)) : MRow w (some ⟨b, off + 12, none⟩) n Ms := by
  obtain ⟨h1, h2, h3⟩ := h
  refine ⟨by simpa using h1, by omega, Or.inr ⟨b, off + 12, rfl, fun i hi j hj => ?_⟩⟩
  rcases h3 with h3 | ⟨b', off', e, hc⟩
  · omega
  · simp at e
    obtain ⟨rfl, rfl⟩ := e
    have := hc (i + 1) (by omega) j hj
    rw [show off + (i + 1) * 12 + j = off + 12 + i * 12 + j by omega] at this
    simpa using this
theorem MRow.head {w : World} {b off n : Nat} {M : Nat → Int} {Ms : List (Nat → Int)} (h : MRow w (some ⟨b, off, none⟩) (n + 1) (M :: Ms)) : w.cell? ⟨b, off, none⟩ = some (.int .i64 (M 0)) ∧ w.cell? ⟨b, off + 1, none⟩ = some (.int .i64 (M 1)) ∧ w.cell? ⟨b, off + 2, none⟩ = some (.int .i64 (M 2)) ∧ w.cell? ⟨b, off + 3, none⟩ = some (.int .i64 (M 3)) ∧ w.cell? ⟨b, off + 4, none⟩ = some (.int .i64 (M 4)) ∧ w.cell? ⟨b, off + 5, none⟩ = some (.int .i64 (M 5)) ∧ w.cell? ⟨b, off + 6, none⟩ = some (.int .i64 (M 6)) ∧ w.cell? ⟨b, off + 7, none⟩ = some (.int .i64 (M 7)) ∧ w.cell? ⟨b, off + 8, none⟩ = some (.int .i64 (M 8)) ∧ w.cell? ⟨b, off + 9, none⟩ = some (.int .i64 (M 9)) ∧ w.cell? ⟨b, off + 10, none⟩ = some (.int .i64 (M 10)) ∧ w.cell? ⟨b, off + 11, none⟩ = some (.int .i64 (M 11)) := by
  obtain ⟨h1, h2, h3⟩ := h
  rcases h3 with h3 | ⟨b', off', e, hc⟩
  · omega
  · simp at e
    obtain ⟨rfl, rfl⟩ := e
    have c := hc 0 (by omega)
    simp only [Nat.zero_mul, Nat.add_zero] at c
    exact ⟨c 0 (by omega), c 1 (by omega), c 2 (by omega), c 3 (by omega), c 4 (by omega), c 5 (by omega), c 6 (by omega), c 7 (by omega), c 8 (by omega), c 9 (by omega), c 10 (by omega), c 11 (by omega)⟩

/-- twelve stores into a block, and into another one -/
theorem Blk.set12 {w : World} {g : Nat} {t : TypeId} {x0 x1 x2 x3 x4 x5 x6 x7 x8 x9 x10 x11 u0 u1 u2 u3 u4 u5 u6 u7 u8 u9 u10 u11 : Value} (h : Blk w g t #[x0, x1, x2, x3, x4, x5, x6, x7, x8, x9, x10, x11]) : Blk ((((((((((((w.setCell ⟨g, 0, none⟩ u0).setCell ⟨g, 1, none⟩ u1).setCell ⟨g, 2, none⟩ u2).setCell ⟨g, 3, none⟩ u3).setCell ⟨g, 4, none⟩ u4).setCell ⟨g, 5, none⟩ u5).setCell ⟨g, 6, none⟩ u6).setCell ⟨g, 7, none⟩ u7).setCell ⟨g, 8, none⟩ u8).setCell ⟨g, 9, none⟩ u9).setCell ⟨g, 10, none⟩ u10).setCell ⟨g, 11, none⟩ u11) g t #[u0, u1, u2, u3, u4, u5, u6, u7, u8, u9, u10, u11] := by
  have h0 : Blk (w.setCell ⟨g, 0, none⟩ u0) g t #[u0, x1, x2, x3, x4, x5, x6, x7, x8, x9, x10, x11] := by simpa using h.set_ 0 u0
  have h1 : Blk ((w.setCell ⟨g, 0, none⟩ u0).setCell ⟨g, 1, none⟩ u1) g t #[u0, u1, x2, x3, x4, x5, x6, x7, x8, x9, x10, x11] := by simpa using h0.set_ 1 u1
  have h2 : Blk (((w.setCell ⟨g, 0, none⟩ u0).setCell ⟨g, 1, none⟩ u1).setCell ⟨g, 2, none⟩ u2) g t #[u0, u1, u2, x3, x4, x5, x6, x7, x8, x9, x10, x11] := by simpa using h1.set_ 2 u2
  have h3 : Blk ((((w.setCell ⟨g, 0, none⟩ u0).setCell ⟨g, 1, none⟩ u1).setCell ⟨g, 2, none⟩ u2).setCell ⟨g, 3, none⟩ u3) g t #[u0, u1, u2, u3, x4, x5, x6, x7, x8, x9, x10, x11] := by simpa using h2.set_ 3 u3
  have h4 : Blk (((((w.setCell ⟨g, 0, none⟩ u0).setCell ⟨g, 1, none⟩ u1).setCell ⟨g, 2, none⟩ u2).setCell ⟨g, 3, none⟩ u3).setCell ⟨g, 4, none⟩ u4) g t #[u0, u1, u2, u3, u4, x5, x6, x7, x8, x9, x10, x11] := by simpa using h3.set_ 4 u4
  have h5 : Blk ((((((w.setCell ⟨g, 0, none⟩ u0).setCell ⟨g, 1, none⟩ u1).setCell ⟨g, 2, none⟩ u2).setCell ⟨g, 3, none⟩ u3).setCell ⟨g, 4, none⟩ u4).setCell ⟨g, 5, none⟩ u5) g t #[u0, u1, u2, u3, u4, u5, x6, x7, x8, x9, x10, x11] := by simpa using h4.set_ 5 u5
  have h6 : Blk (((((((w.setCell ⟨g, 0, none⟩ u0).setCell ⟨g, 1, none⟩ u1).setCell ⟨g, 2, none⟩ u2).setCell ⟨g, 3, none⟩ u3).setCell ⟨g, 4, none⟩ u4).setCell ⟨g, 5, none⟩ u5).setCell ⟨g, 6, none⟩ u6) g t #[u0, u1, u2, u3, u4, u5, u6, x7, x8, x9, x10, x11] := by simpa using h5.set_ 6 u6
  have h7 : Blk ((((((((w.setCell ⟨g, 0, none⟩ u0).setCell ⟨g, 1, none⟩ u1).setCell ⟨g, 2, none⟩ u2).setCell ⟨g, 3, none⟩ u3).setCell ⟨g, 4, none⟩ u4).setCell ⟨g, 5, none⟩ u5).setCell ⟨g, 6, none⟩ u6).setCell ⟨g, 7, none⟩ u7) g t #[u0, u1, u2, u3, u4, u5, u6, u7, x8, x9, x10, x11] := by simpa using h6.set_ 7 u7
  have h8 : Blk (((((((((w.setCell ⟨g, 0, none⟩ u0).setCell ⟨g, 1, none⟩ u1).setCell ⟨g, 2, none⟩ u2).setCell ⟨g, 3, none⟩ u3).setCell ⟨g, 4, none⟩ u4).setCell ⟨g, 5, none⟩ u5).setCell ⟨g, 6, none⟩ u6).setCell ⟨g, 7, none⟩ u7).setCell ⟨g, 8, none⟩ u8) g t #[u0, u1, u2, u3, u4, u5, u6, u7, u8, x9, x10, x11] := by simpa using h7.set_ 8 u8
  have h9 : Blk ((((((((((w.setCell ⟨g, 0, none⟩ u0).setCell ⟨g, 1, none⟩ u1).setCell ⟨g, 2, none⟩ u2).setCell ⟨g, 3, none⟩ u3).setCell ⟨g, 4, none⟩ u4).setCell ⟨g, 5, none⟩ u5).setCell ⟨g, 6, none⟩ u6).setCell ⟨g, 7, none⟩ u7).setCell ⟨g, 8, none⟩ u8).setCell ⟨g, 9, none⟩ u9) g t #[u0, u1, u2, u3, u4, u5, u6, u7, u8, u9, x10, x11] := by simpa using h8.set_ 9 u9
  have h10 : Blk (((((((((((w.setCell ⟨g, 0, none⟩ u0).setCell ⟨g, 1, none⟩ u1).setCell ⟨g, 2, none⟩ u2).setCell ⟨g, 3, none⟩ u3).setCell ⟨g, 4, none⟩ u4).setCell ⟨g, 5, none⟩ u5).setCell ⟨g, 6, none⟩ u6).setCell ⟨g, 7, none⟩ u7).setCell ⟨g, 8, none⟩ u8).setCell ⟨g, 9, none⟩ u9).setCell ⟨g, 10, none⟩ u10) g t #[u0, u1, u2, u3, u4, u5, u6, u7, u8, u9, u10, x11] := by simpa using h9.set_ 10 u10
  have h11 : Blk ((((((((((((w.setCell ⟨g, 0, none⟩ u0).setCell ⟨g, 1, none⟩ u1).setCell ⟨g, 2, none⟩ u2).setCell ⟨g, 3, none⟩ u3).setCell ⟨g, 4, none⟩ u4).setCell ⟨g, 5, none⟩ u5).setCell ⟨g, 6, none⟩ u6).setCell ⟨g, 7, none⟩ u7).setCell ⟨g, 8, none⟩ u8).setCell ⟨g, 9, none⟩ u9).setCell ⟨g, 10, none⟩ u10).setCell ⟨g, 11, none⟩ u11) g t #[u0, u1, u2, u3, u4, u5, u6, u7, u8, u9, u10, u11] := by simpa using h10.set_ 11 u11
  exact h11
theorem Blk.far12 {w : World} {g g' : Nat} {t : TypeId} {cs : Array Value} {u0 u1 u2 u3 u4 u5 u6 u7 u8 u9 u10 u11 : Value} (h : Blk w g t cs) (hne : g ≠ g') : Blk ((((((((((((w.setCell ⟨g', 0, none⟩ u0).setCell ⟨g', 1, none⟩ u1).setCell ⟨g', 2, none⟩ u2).setCell ⟨g', 3, none⟩ u3).setCell ⟨g', 4, none⟩ u4).setCell ⟨g', 5, none⟩ u5).setCell ⟨g', 6, none⟩ u6).setCell ⟨g', 7, none⟩ u7).setCell ⟨g', 8, none⟩ u8).setCell ⟨g', 9, none⟩ u9).setCell ⟨g', 10, none⟩ u10).setCell ⟨g', 11, none⟩ u11) g t cs := ((((((((((((h.far (p := ⟨g', 0, none⟩) hne u0).far (p := ⟨g', 1, none⟩) hne u1).far (p := ⟨g', 2, none⟩) hne u2).far (p := ⟨g', 3, none⟩) hne u3).far (p := ⟨g', 4, none⟩) hne u4).far (p := ⟨g', 5, none⟩) hne u5).far (p := ⟨g', 6, none⟩) hne u6).far (p := ⟨g', 7, none⟩) hne u7).far (p := ⟨g', 8, none⟩) hne u8).far (p := ⟨g', 9, none⟩) hne u9).far (p := ⟨g', 10, none⟩) hne u10).far (p := ⟨g', 11, none⟩) hne u11)

set_option maxHeartbeats 1000000 in
theorem mmul_no (a : Option Addr) (len cap : Nat) (Ms : List (Nat → Int)) (w : World) (row : MRow w a len Ms) (h : rightM Ms = false) :
    Calls Tryz.prog 70 #[.slice a len cap] w fun e w' => e = .returned (.tuple #[.agg #[.int .i64 0, .int .i64 0, .int .i64 0, .int .i64 0, .int .i64 0, .int .i64 0, .int .i64 0, .int .i64 0, .int .i64 0, .int .i64 0, .int .i64 0, .int .i64 0], .int .i64 1]) ∧ Below w.heap.size w w' := by
  have HRow := Lib.hid row
  have HO := Lib.hid h
  clear row h
  go_enter Tryz.func70, Tryz.ntmps70
  go_wp2_with fail
  refine (mright_b HO.out (mrow_keep HRow.out (alloc_below _ _))).mono ?_
  rintro e w1 ⟨rfl, b1⟩
  have KR := Lib.hid ((Blk.new w 46 _).keep b1)
  have B1 := Lib.hid (bthen (alloc_below _ _) b1)
  clear b1
  obtain ⟨c0, c1, c2, c3, c4, c5, c6, c7, c8, c9, c10, c11, f0, f1, f2, f3, f4, f5, f6, f7, f8, f9, f10, f11⟩ := blk12 KR.out
  go_wp2
  exact bodyPost_ret (v := .tuple #[.agg #[.int .i64 0, .int .i64 0, .int .i64 0, .int .i64 0, .int .i64 0, .int .i64 0, .int .i64 0, .int .i64 0, .int .i64 0, .int .i64 0, .int .i64 0, .int .i64 0], .int .i64 1]) (by simp [results, Tryz.results70, go_sem, c0, c1, c2, c3, c4, c5, c6, c7, c8, c9, c10, c11]) rfl ⟨rfl, bset12 B1.out (by omega)⟩

set_option maxHeartbeats 1000000 in
theorem mmul_none (a : Option Addr) (cap : Nat) (w : World) :
    Calls Tryz.prog 70 #[.slice a 0 cap] w fun e w' => e = .returned (.tuple #[.agg #[.int .i64 65536, .int .i64 0, .int .i64 0, .int .i64 0, .int .i64 0, .int .i64 65536, .int .i64 0, .int .i64 0, .int .i64 0, .int .i64 0, .int .i64 65536, .int .i64 0], .int .i64 0]) ∧ Below w.heap.size w w' := by
  go_enter Tryz.func70, Tryz.ntmps70
  go_wp2_with fail
  refine (mright_b (Ms := []) (len := 0) rfl ⟨rfl, by omega, Or.inl rfl⟩).mono ?_
  rintro e w1 ⟨rfl, b1⟩
  have KR := Lib.hid ((Blk.new w 46 _).keep b1)
  have B1 := Lib.hid (bthen (alloc_below _ _) b1)
  clear b1
  go_wp2_with fail
  refine (same_any _).mono ?_
  rintro e w2 ⟨rfl, b2⟩
  replace KR := Lib.hid (KR.out.keep b2)
  replace B1 := Lib.hid (bthen B1.out b2)
  clear b2
  obtain ⟨c0, c1, c2, c3, c4, c5, c6, c7, c8, c9, c10, c11, f0, f1, f2, f3, f4, f5, f6, f7, f8, f9, f10, f11⟩ := blk12 KR.out
  go_wp2
  exact bodyPost_ret (v := .tuple #[.agg #[.int .i64 65536, .int .i64 0, .int .i64 0, .int .i64 0, .int .i64 0, .int .i64 65536, .int .i64 0, .int .i64 0, .int .i64 0, .int .i64 0, .int .i64 65536, .int .i64 0], .int .i64 0]) (by simp [results, Tryz.results70, go_sem, c0, c1, c2, c3, c4, c5, c6, c7, c8, c9, c10, c11]) rfl ⟨rfl, bset12 B1.out (by omega)⟩

set_option maxHeartbeats 2000000 in
theorem mmul_some (b off n cap : Nat) (M : Nat → Int) (Ms : List (Nat → Int)) (w : World) (row : MRow w (some ⟨b, off, none⟩) (n + 1) (M :: Ms)) (hcap : n + 1 ≤ cap) (hbig : cap ≤ 9223372036854775807) (h : rightM (M :: Ms) = true) :
    Calls Tryz.prog 70 #[.slice (some ⟨b, off, none⟩) (n + 1) cap] w fun e w' => e = .returned (.tuple #[.agg #[.int .i64 ((foldM M Ms).1 0), .int .i64 ((foldM M Ms).1 1), .int .i64 ((foldM M Ms).1 2), .int .i64 ((foldM M Ms).1 3), .int .i64 ((foldM M Ms).1 4), .int .i64 ((foldM M Ms).1 5), .int .i64 ((foldM M Ms).1 6), .int .i64 ((foldM M Ms).1 7), .int .i64 ((foldM M Ms).1 8), .int .i64 ((foldM M Ms).1 9), .int .i64 ((foldM M Ms).1 10), .int .i64 ((foldM M Ms).1 11)], .int .i64 (foldM M Ms).2]) ∧ Below w.heap.size w w' := by
  have HRow := Lib.hid row
  have HO := Lib.hid h
  clear row h
  go_enter Tryz.func70, Tryz.ntmps70
  go_wp2_with fail
  refine (mright_b HO.out (mrow_keep HRow.out (alloc_below _ _))).mono ?_
  rintro e w1 ⟨rfl, b1⟩
  have KR := Lib.hid ((Blk.new w 46 _).keep b1)
  have B1 := Lib.hid (bthen (alloc_below _ _) b1)
  clear b1
  obtain ⟨m0, m1, m2, m3, m4, m5, m6, m7, m8, m9, m10, m11⟩ := (mrow_keep HRow.out B1.out).head
  by_cases hc1 : cap = 1
  · obtain rfl : n = 0 := by omega
    subst hc1
    obtain rfl : Ms = [] := List.eq_nil_of_length_eq_zero (by have := HRow.out.1; simpa using this)
    go_wp2
    refine wp_loop_rounds 1 ?_
    rw [rounds_succ]
    clear m0 m1 m2 m3 m4 m5 m6 m7 m8 m9 m10 m11
    refine fin (fun W => Blk W w.heap.size 46 #[.int .i64 0, .int .i64 0, .int .i64 0, .int .i64 0, .int .i64 0, .int .i64 0, .int .i64 0, .int .i64 0, .int .i64 0, .int .i64 0, .int .i64 0, .int .i64 0] ∧ Blk W w1.heap.size 46 #[.int .i64 (M 0), .int .i64 (M 1), .int .i64 (M 2), .int .i64 (M 3), .int .i64 (M 4), .int .i64 (M 5), .int .i64 (M 6), .int .i64 (M 7), .int .i64 (M 8), .int .i64 (M 9), .int .i64 (M 10), .int .i64 (M 11)] ∧ Below w.heap.size w W) ⟨KR.out.alloc _, Blk.new w1 _ _, balloc B1.out _⟩ ?_
    rintro W ⟨hk1, hm1, hb1⟩
    have HB := Lib.hid hb1
    clear hb1
    obtain ⟨o0, o1, o2, o3, o4, o5, o6, o7, o8, o9, o10, o11, _, _, _, _, _, _, _, _, _, _, _, _⟩ := blk12 hm1
    obtain ⟨c0, c1, c2, c3, c4, c5, c6, c7, c8, c9, c10, c11, f0, f1, f2, f3, f4, f5, f6, f7, f8, f9, f10, f11⟩ := blk12 hk1
    go_wp2
    exact bodyPost_ret (v := .tuple #[.agg #[.int .i64 (M 0), .int .i64 (M 1), .int .i64 (M 2), .int .i64 (M 3), .int .i64 (M 4), .int .i64 (M 5), .int .i64 (M 6), .int .i64 (M 7), .int .i64 (M 8), .int .i64 (M 9), .int .i64 (M 10), .int .i64 (M 11)], .int .i64 0]) (by simp [results, Tryz.results70, go_sem, c0, c1, c2, c3, c4, c5, c6, c7, c8, c9, c10, c11]) rfl ⟨rfl, bset12 HB.out (by omega)⟩
  go_wp2
  go_loopw [6, 7, 23] (fun _ _ i wr => ∃ k : Nat, ∃ P : Nat → Int, k ≤ n ∧ i = .int .i64 k ∧ foldM M Ms = foldM P (Ms.drop k) ∧ BM wr w1.heap.size P ∧ Blk wr w.heap.size 46 #[.int .i64 0, .int .i64 0, .int .i64 0, .int .i64 0, .int .i64 0, .int .i64 0, .int .i64 0, .int .i64 0, .int .i64 0, .int .i64 0, .int .i64 0, .int .i64 0] ∧ Below w.heap.size w wr) (fun _ _ i _ => n - (intOf i).toNat)
  case atStart => exact ⟨0, M, by omega, rfl, rfl, Blk.new w1 _ _, KR.out.alloc _, balloc B1.out _⟩
  case round =>
    have hne : w.heap.size < w1.heap.size := KR.out.lt
    have hle : w.heap.size ≤ w1.heap.size := B1.out.size
    clear KR B1 m0 m1 m2 m3 m4 m5 m6 m7 m8 m9 m10 m11
    obtain ⟨k, P, hk, rfl, hf, hp, hres, hb⟩ := hrel
    have HF := Lib.hid hf
    have HP := Lib.hid hp
    have HRes := Lib.hid hres
    have HB := Lib.hid hb
    clear hf hp hres hb
    by_cases hlt : k < n
    · obtain ⟨b', off', N, e, hv, m0, m1, m2, m3, m4, m5, m6, m7, m8, m9, m10, m11⟩ := (mrow_keep HRow.out HB.out).tail.at_ hlt
      simp at e
      obtain ⟨rfl, rfl⟩ := e
      have HV := Lib.hid hv
      clear hv
      obtain ⟨p0, p1, p2, p3, p4, p5, p6, p7, p8, p9, p10, p11, _, _, _, _, _, _, _, _, _, _, _, _⟩ := blk12 HP.out
      have zp := HP.out.lt
      go_wp2_with fail
      refine (pair_any P N _).mono ?_
      rintro e w2 ⟨rfl, b2⟩
      have HP2 := Lib.hid (Blk.keep (Blk.alloc HP.out _) b2)
      have HRes2 := Lib.hid ((HRes.out.alloc _).keep b2)
      have HB2 := Lib.hid (bthen (balloc HB.out _) b2)
      clear b2 m0 m1 m2 m3 m4 m5 m6 m7 m8 m9 m10 m11 p0 p1 p2 p3 p4 p5 p6 p7 p8 p9 p10 p11 zp HP HRes HB
      obtain ⟨y, hy⟩ : ∃ y, y = prodE2 P N := ⟨_, rfl⟩
      have HY := Lib.hid hy
      rw [← hy]
      clear hy
      by_cases he : y = 0
      · have HEk := Lib.hid he
        have he' : (y != 0) = false := by rw [he]; rfl
        clear he
        obtain ⟨p0, p1, p2, p3, p4, p5, p6, p7, p8, p9, p10, p11, q0, q1, q2, q3, q4, q5, q6, q7, q8, q9, q10, q11⟩ := blk12 HP2.out
        have zp := HP2.out.lt
        go_wp2
        go_roundw
        case rel =>
          refine ⟨_, _, _, _, _, _, _, _, _, _, _, _, _, _, _, _, _, _, _, _, ?_, rfl⟩
          exact ⟨k + 1, prodM P N, by omega, by go_num, by rw [HF.out]; exact foldM_ok HV.out (by rw [← HY.out]; exact HEk.out), (Blk.set12 HP2.out).alloc _, (HRes2.out.far12 (by omega)).alloc _, balloc (bset12 HB2.out (by omega)) _⟩
        case measure => simp [intOf] <;> omega
      · have HEk := Lib.hid he
        have he' : (y != 0) = true := by simpa using he
        clear he HP2
        have zr := HRes2.out.lt
        obtain ⟨c0, c1, c2, c3, c4, c5, c6, c7, c8, c9, c10, c11, f0, f1, f2, f3, f4, f5, f6, f7, f8, f9, f10, f11⟩ := blk12 HRes2.out
        go_wp2
        refine fin (fun W => Blk W w.heap.size 46 #[.int .i64 0, .int .i64 0, .int .i64 0, .int .i64 0, .int .i64 0, .int .i64 0, .int .i64 0, .int .i64 0, .int .i64 0, .int .i64 0, .int .i64 0, .int .i64 0] ∧ Below w.heap.size w W) ⟨(Blk.set12 HRes2.out).alloc _, balloc (bset12 HB2.out (by omega)) _⟩ ?_
        rintro W ⟨hk1, hb1⟩
        clear c0 c1 c2 c3 c4 c5 c6 c7 c8 c9 c10 c11 f0 f1 f2 f3 f4 f5 f6 f7 f8 f9 f10 f11
        obtain ⟨c0, c1, c2, c3, c4, c5, c6, c7, c8, c9, c10, c11, _, _, _, _, _, _, _, _, _, _, _, _⟩ := blk12 hk1
        have e1 : foldM M Ms = (zeroM, y) := by rw [HF.out, HY.out]; exact foldM_no HV.out (by rw [← HY.out]; exact HEk.out)
        exact bodyPost_ret (v := .tuple #[.agg #[.int .i64 0, .int .i64 0, .int .i64 0, .int .i64 0, .int .i64 0, .int .i64 0, .int .i64 0, .int .i64 0, .int .i64 0, .int .i64 0, .int .i64 0, .int .i64 0], .int .i64 y]) (by simp [results, Tryz.results70, go_sem, c0, c1, c2, c3, c4, c5, c6, c7, c8, c9, c10, c11]) rfl ⟨by rw [e1]; rfl, hb1⟩
    · obtain rfl : k = n := by omega
      have e1 : foldM M Ms = (P, 0) := by rw [HF.out, List.drop_of_length_le (by have := HRow.out.1; simp at this; omega)]; rfl
      have HE := Lib.hid e1
      clear e1
      obtain ⟨o0, o1, o2, o3, o4, o5, o6, o7, o8, o9, o10, o11, _, _, _, _, _, _, _, _, _, _, _, _⟩ := blk12 HP.out
      obtain ⟨c0, c1, c2, c3, c4, c5, c6, c7, c8, c9, c10, c11, f0, f1, f2, f3, f4, f5, f6, f7, f8, f9, f10, f11⟩ := blk12 HRes.out
      go_wp2
      exact bodyPost_ret (v := .tuple #[.agg #[.int .i64 (P 0), .int .i64 (P 1), .int .i64 (P 2), .int .i64 (P 3), .int .i64 (P 4), .int .i64 (P 5), .int .i64 (P 6), .int .i64 (P 7), .int .i64 (P 8), .int .i64 (P 9), .int .i64 (P 10), .int .i64 (P 11)], .int .i64 0]) (by simp [results, Tryz.results70, go_sem, c0, c1, c2, c3, c4, c5, c6, c7, c8, c9, c10, c11]) rfl ⟨by rw [HE.out], bset12 HB.out (by omega)⟩

theorem mmul_any (a : Option Addr) (len cap : Nat) (Ms : List (Nat → Int)) (w : World) (row : MRow w a len Ms) (hcap : len ≤ cap) (hbig : cap ≤ 9223372036854775807) :
    Calls Tryz.prog 70 #[.slice a len cap] w fun e w' => e = .returned (.tuple #[.agg #[.int .i64 ((mulMs Ms).1 0), .int .i64 ((mulMs Ms).1 1), .int .i64 ((mulMs Ms).1 2), .int .i64 ((mulMs Ms).1 3), .int .i64 ((mulMs Ms).1 4), .int .i64 ((mulMs Ms).1 5), .int .i64 ((mulMs Ms).1 6), .int .i64 ((mulMs Ms).1 7), .int .i64 ((mulMs Ms).1 8), .int .i64 ((mulMs Ms).1 9), .int .i64 ((mulMs Ms).1 10), .int .i64 ((mulMs Ms).1 11)], .int .i64 (mulMs Ms).2]) ∧ Below w.heap.size w w' := by
  by_cases h : rightM Ms = true
  · match Ms, row, h with
    | [], row, h =>
      have e := row.1
      simp at e
      subst e
      exact mmul_none a cap w
    | M :: Ms, row, h =>
      have e := row.1
      obtain ⟨n, rfl⟩ : ∃ n, len = n + 1 := ⟨Ms.length, by simpa using e.symm⟩
      obtain ⟨b, off, rfl⟩ : ∃ b off, a = some ⟨b, off, none⟩ := by
        rcases row.2.2 with h0 | ⟨b, off, e, _⟩
        · omega
        · exact ⟨b, off, e⟩
      rw [mulMs_cons h]
      exact mmul_some b off n cap M Ms w row hcap hbig h
  · have h' : rightM Ms = false := by simpa using h
    rw [mulMs_no h']
    exact mmul_no a len cap Ms w row h'

end Go.Proofs.YtdndafdninnjfaaGreat
/-
  What the reference's Mul of layer 3 answers.
-/
namespace Go.Proofs.YtdndafdninnjfaaGreat
open Go.RowKit

/-- a product that may be may be -/
theorem addV_ok (zs : List Int) : okB (addV zs) = true := by
  unfold addV
  by_cases h : addOk zs = true
  · rw [if_pos h]
    unfold fitV
    by_cases h' : okB zs.sum = true
    · rw [if_pos h']; exact h'
    · rw [if_neg h']; decide
  · rw [if_neg h]; decide
theorem alV_ok (M : Nat → Int) (r : Nat) (V : Nat → Int) (l : Int) : okB (alV M r V l) = true := by
  unfold alV
  by_cases h : alF M r V = 0
  · rw [if_pos h]; exact addV_ok _
  · rw [if_neg h]; decide
theorem prodM_ok (A B : Nat → Int) : okM (prodM A B) = true := okM_of fun k _ => by
  unfold prodM gate
  by_cases h : prodE2 A B = 0
  · rw [if_pos h]; exact alV_ok _ _ _ _
  · rw [if_neg h]; decide
theorem MRow.range {w : World} {a : Option Addr} {len k : Nat} {Ms : List (Nat → Int)} (h : MRow w a len Ms) (hk : k < len) :
    ∃ b off M, a = some ⟨b, off, none⟩ ∧ Ms[k]? = some M ∧ w.rangeAt b (off + k * 12) [.int .i64 (M 0), .int .i64 (M 1), .int .i64 (M 2), .int .i64 (M 3), .int .i64 (M 4), .int .i64 (M 5), .int .i64 (M 6), .int .i64 (M 7), .int .i64 (M 8), .int .i64 (M 9), .int .i64 (M 10), .int .i64 (M 11)] := by
  obtain ⟨h1, h2, h3⟩ := h
  rcases h3 with h3 | ⟨b, off, rfl, hc⟩
  · omega
  · have hk' : k < Ms.length := by omega
    have e : Ms.getD k zeroM = Ms[k] := by simp [List.getD, List.getElem?_eq_getElem hk']
    have c := hc k hk
    rw [e] at c
    refine ⟨b, off, _, rfl, List.getElem?_eq_getElem hk', fun j v hv => ?_⟩
    have hj : j < 12 := by have := (List.getElem?_eq_some_iff.1 hv).1; simpa using this
    rw [c j hj]
    rcases lt12 hj with rfl | rfl | rfl | rfl | rfl | rfl | rfl | rfl | rfl | rfl | rfl | rfl <;> simpa using hv
end Go.Proofs.YtdndafdninnjfaaGreat
/-
  '==' of two matrices that are the same; slices of two and of four matrices; the laws' own live question of layer 3 answers true; arguments that are matrices, opened to their numbers.
-/
namespace Go.Proofs.YtdndafdninnjfaaGreat
open Go.ChangeShapes Go.WideShapes Go.ChangeAt Go.RowKit Go.Deep

set_option maxHeartbeats 1000000 in
theorem eqMat (x0 x1 x2 x3 x4 x5 x6 x7 x8 x9 x10 x11 : Int) (w : World) : (Op.equalIn 10000 46 (.agg #[.int .i64 x0, .int .i64 x1, .int .i64 x2, .int .i64 x3, .int .i64 x4, .int .i64 x5, .int .i64 x6, .int .i64 x7, .int .i64 x8, .int .i64 x9, .int .i64 x10, .int .i64 x11]) (.agg #[.int .i64 x0, .int .i64 x1, .int .i64 x2, .int .i64 x3, .int .i64 x4, .int .i64 x5, .int .i64 x6, .int .i64 x7, .int .i64 x8, .int .i64 x9, .int .i64 x10, .int .i64 x11])).run Tryz.prog w = .ok true w := by
  have u3 := Tryz.underlying44
  have a3 := Tryz.isAgg44
  have z3 := Tryz.sizeOf44
  rw [show (10000 : Nat) = 9999 + 1 from rfl, Op.equalIn]
  simp only [Sem.run_bind, run_underlying Tryz.underlying46, Result.andThen_ok]
  simp only [Std.Legacy.Range.forIn_eq_forIn_range', Std.Legacy.Range.size, Nat.sub_zero, Nat.add_sub_cancel, Nat.div_one, List.range'_succ, List.range'_zero, List.forIn_cons, List.forIn_nil]
  go_simp

theorem mrow2 {w : World} {g : Nat} {t : TypeId} {A B : Nat → Int} (h : Blk w g t #[.int .i64 (A 0), .int .i64 (A 1), .int .i64 (A 2), .int .i64 (A 3), .int .i64 (A 4), .int .i64 (A 5), .int .i64 (A 6), .int .i64 (A 7), .int .i64 (A 8), .int .i64 (A 9), .int .i64 (A 10), .int .i64 (A 11), .int .i64 (B 0), .int .i64 (B 1), .int .i64 (B 2), .int .i64 (B 3), .int .i64 (B 4), .int .i64 (B 5), .int .i64 (B 6), .int .i64 (B 7), .int .i64 (B 8), .int .i64 (B 9), .int .i64 (B 10), .int .i64 (B 11)]) : MRow w (some ⟨g, 0, none⟩) 2 [A, B] := by
  refine ⟨rfl, by omega, Or.inr ⟨_, _, rfl, fun i hi j hj => ?_⟩⟩
  obtain rfl | rfl : i = 0 ∨ i = 1 := by omega
  · rcases lt12 hj with rfl | rfl | rfl | rfl | rfl | rfl | rfl | rfl | rfl | rfl | rfl | rfl
    · exact h.cell 0
    · exact h.cell 1
    · exact h.cell 2
    · exact h.cell 3
    · exact h.cell 4
    · exact h.cell 5
    · exact h.cell 6
    · exact h.cell 7
    · exact h.cell 8
    · exact h.cell 9
    · exact h.cell 10
    · exact h.cell 11
  · rcases lt12 hj with rfl | rfl | rfl | rfl | rfl | rfl | rfl | rfl | rfl | rfl | rfl | rfl
    · exact h.cell 12
    · exact h.cell 13
    · exact h.cell 14
    · exact h.cell 15
    · exact h.cell 16
    · exact h.cell 17
    · exact h.cell 18
    · exact h.cell 19
    · exact h.cell 20
    · exact h.cell 21
    · exact h.cell 22
    · exact h.cell 23
end Go.Proofs.YtdndafdninnjfaaGreat
/-
  Arguments that are matrices, opened to their numbers.
-/
namespace Go.Proofs.YtdndafdninnjfaaGreat
open Go.ChangeShapes Go.WideShapes Go.ChangeAt Go.RowKit Go.Deep

section
variable {H : Type} {enc : TypeId × Value → H} {w : World} {base : Nat} {spare : Nat → Bool} {held : Bool}

end
end Go.Proofs.YtdndafdninnjfaaGreat
