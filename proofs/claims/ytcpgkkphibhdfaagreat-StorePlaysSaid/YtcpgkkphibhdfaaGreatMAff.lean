/-
  14 texts in one file, each with its own heading.
-/
import Derived.Test.YtcpgkkphibhdfaaGreatMVec
import Derived.WalkKit
import Derived.ProofKit
import Derived.OpenShut
import Derived.Deep.Slices
import Derived.Laws.IdiomArrays
/-
  Matrices as functions of the place: blocks, rows and slices of them; where a row's number stands; whether matrices may be.
-/
namespace Go.Proofs.YtcpgkkphibhdfaaGreat
open Go.RowKit

/-- a block of twelve cells, for the walk -/
theorem blk12 {w : World} {g : Nat} {t : TypeId} {x0 x1 x2 x3 x4 x5 x6 x7 x8 x9 x10 x11 : Value} (h : Blk w g t #[x0, x1, x2, x3, x4, x5, x6, x7, x8, x9, x10, x11]) : w.cell? ⟨g, 0, none⟩ = some x0 ∧ w.cell? ⟨g, 1, none⟩ = some x1 ∧ w.cell? ⟨g, 2, none⟩ = some x2 ∧ w.cell? ⟨g, 3, none⟩ = some x3 ∧ w.cell? ⟨g, 4, none⟩ = some x4 ∧ w.cell? ⟨g, 5, none⟩ = some x5 ∧ w.cell? ⟨g, 6, none⟩ = some x6 ∧ w.cell? ⟨g, 7, none⟩ = some x7 ∧ w.cell? ⟨g, 8, none⟩ = some x8 ∧ w.cell? ⟨g, 9, none⟩ = some x9 ∧ w.cell? ⟨g, 10, none⟩ = some x10 ∧ w.cell? ⟨g, 11, none⟩ = some x11 ∧ w.frozen? ⟨g, 0, none⟩ = false ∧ w.frozen? ⟨g, 1, none⟩ = false ∧ w.frozen? ⟨g, 2, none⟩ = false ∧ w.frozen? ⟨g, 3, none⟩ = false ∧ w.frozen? ⟨g, 4, none⟩ = false ∧ w.frozen? ⟨g, 5, none⟩ = false ∧ w.frozen? ⟨g, 6, none⟩ = false ∧ w.frozen? ⟨g, 7, none⟩ = false ∧ w.frozen? ⟨g, 8, none⟩ = false ∧ w.frozen? ⟨g, 9, none⟩ = false ∧ w.frozen? ⟨g, 10, none⟩ = false ∧ w.frozen? ⟨g, 11, none⟩ = false :=
  ⟨h.cell 0, h.cell 1, h.cell 2, h.cell 3, h.cell 4, h.cell 5, h.cell 6, h.cell 7, h.cell 8, h.cell 9, h.cell 10, h.cell 11, h.frozen 0, h.frozen 1, h.frozen 2, h.frozen 3, h.frozen 4, h.frozen 5, h.frozen 6, h.frozen 7, h.frozen 8, h.frozen 9, h.frozen 10, h.frozen 11⟩
theorem bset12 {w a : World} {g : Nat} {u0 u1 u2 u3 u4 u5 u6 u7 u8 u9 u10 u11 : Value} (h : Below w.heap.size w a) (hg : w.heap.size ≤ g) : Below w.heap.size w ((((((((((((a.setCell ⟨g, 0, none⟩ u0).setCell ⟨g, 1, none⟩ u1).setCell ⟨g, 2, none⟩ u2).setCell ⟨g, 3, none⟩ u3).setCell ⟨g, 4, none⟩ u4).setCell ⟨g, 5, none⟩ u5).setCell ⟨g, 6, none⟩ u6).setCell ⟨g, 7, none⟩ u7).setCell ⟨g, 8, none⟩ u8).setCell ⟨g, 9, none⟩ u9).setCell ⟨g, 10, none⟩ u10).setCell ⟨g, 11, none⟩ u11) := ((((((((((((h.setCell hg _).setCell hg _).setCell hg _).setCell hg _).setCell hg _).setCell hg _).setCell hg _).setCell hg _).setCell hg _).setCell hg _).setCell hg _).setCell hg _)
theorem lt12 {k : Nat} (hk : k < 12) : k = 0 ∨ k = 1 ∨ k = 2 ∨ k = 3 ∨ k = 4 ∨ k = 5 ∨ k = 6 ∨ k = 7 ∨ k = 8 ∨ k = 9 ∨ k = 10 ∨ k = 11 := by omega
theorem Blk.at12 {w : World} {g : Nat} {t : TypeId} {M : Nat → Int} (h : Blk w g t #[.int .i64 (M 0), .int .i64 (M 1), .int .i64 (M 2), .int .i64 (M 3), .int .i64 (M 4), .int .i64 (M 5), .int .i64 (M 6), .int .i64 (M 7), .int .i64 (M 8), .int .i64 (M 9), .int .i64 (M 10), .int .i64 (M 11)]) {k : Nat} (hk : k < 12) : w.cell? ⟨g, k, none⟩ = some (.int .i64 (M k)) := by
  rcases lt12 hk with rfl | rfl | rfl | rfl | rfl | rfl | rfl | rfl | rfl | rfl | rfl | rfl
  · exact h.cell 0
  · exact h.cell 1
  · exact h.cell 2
  · exact h.cell 3
  · exact h.cell 4
  · exact h.cell 5
  · exact h.cell 6
  · exact h.cell 7
  · exact h.cell 8
  · exact h.cell 9
  · exact h.cell 10
  · exact h.cell 11
theorem Blk.at3 {w : World} {g : Nat} {t : TypeId} {M : Nat → Int} (h : Blk w g t #[.int .i64 (M 0), .int .i64 (M 1), .int .i64 (M 2)]) {k : Nat} (hk : k < 3) : w.cell? ⟨g, k, none⟩ = some (.int .i64 (M k)) := by
  obtain rfl | rfl | rfl : k = 0 ∨ k = 1 ∨ k = 2 := by omega
  · exact h.cell 0
  · exact h.cell 1
  · exact h.cell 2
/-- a block that holds a matrix -/
def BM (w : World) (g : Nat) (M : Nat → Int) : Prop := Blk w g 38 #[.int .i64 (M 0), .int .i64 (M 1), .int .i64 (M 2), .int .i64 (M 3), .int .i64 (M 4), .int .i64 (M 5), .int .i64 (M 6), .int .i64 (M 7), .int .i64 (M 8), .int .i64 (M 9), .int .i64 (M 10), .int .i64 (M 11)]
/-- a block that holds a vector -/
def BV3 (w : World) (g : Nat) (V : Nat → Int) : Prop := Blk w g 40 #[.int .i64 (V 0), .int .i64 (V 1), .int .i64 (V 2)]
def zeroM : Nat → Int := fun _ => 0
def okM (M : Nat → Int) : Bool := rightB [M 0, M 1, M 2, M 3, M 4, M 5, M 6, M 7, M 8, M 9, M 10, M 11]
def rightM (Ms : List (Nat → Int)) : Bool := Ms.all okM

theorem row12 {w : World} {g : Nat} {t : TypeId} {M : Nat → Int} (h : Blk w g t #[.int .i64 (M 0), .int .i64 (M 1), .int .i64 (M 2), .int .i64 (M 3), .int .i64 (M 4), .int .i64 (M 5), .int .i64 (M 6), .int .i64 (M 7), .int .i64 (M 8), .int .i64 (M 9), .int .i64 (M 10), .int .i64 (M 11)]) : Row w (some ⟨g, 0, none⟩) 12 [M 0, M 1, M 2, M 3, M 4, M 5, M 6, M 7, M 8, M 9, M 10, M 11] := by
  refine ⟨rfl, by omega, Or.inr ⟨_, _, rfl, fun k hk => ?_⟩⟩
  rcases lt12 hk with rfl | rfl | rfl | rfl | rfl | rfl | rfl | rfl | rfl | rfl | rfl | rfl
  · exact h.cell 0
  · exact h.cell 1
  · exact h.cell 2
  · exact h.cell 3
  · exact h.cell 4
  · exact h.cell 5
  · exact h.cell 6
  · exact h.cell 7
  · exact h.cell 8
  · exact h.cell 9
  · exact h.cell 10
  · exact h.cell 11
theorem okM_at {M : Nat → Int} (h : okM M = true) {k : Nat} (hk : k < 12) : okB (M k) = true := by
  unfold okM rightB at h
  simp only [List.all_cons, List.all_nil, Bool.and_true, Bool.and_eq_true] at h
  rcases lt12 hk with rfl | rfl | rfl | rfl | rfl | rfl | rfl | rfl | rfl | rfl | rfl | rfl <;> simp [h]
theorem okM_of {M : Nat → Int} (h : ∀ k, k < 12 → okB (M k) = true) : okM M = true := by
  unfold okM rightB
  simp [h 0 (by omega), h 1 (by omega), h 2 (by omega), h 3 (by omega), h 4 (by omega), h 5 (by omega), h 6 (by omega), h 7 (by omega), h 8 (by omega), h 9 (by omega), h 10 (by omega), h 11 (by omega)]

/-- a slice of matrices whose elements are 'Ms' -/
def MRow (w : World) (a : Option Addr) (len : Nat) (Ms : List (Nat → Int)) : Prop :=
  Ms.length = len ∧ len ≤ 9223372036854775807 ∧ (len = 0 ∨ ∃ b off, a = some ⟨b, off, none⟩ ∧ ∀ i, i < len → ∀ j, j < 12 → w.cell? ⟨b, off + i * 12 + j, none⟩ = some (.int .i64 (Ms.getD i zeroM j)))
theorem mrow_keep {w w' : World} {a : Option Addr} {len : Nat} {Ms : List (Nat → Int)} (h : MRow w a len Ms) (hb : Below w.heap.size w w') : MRow w' a len Ms := by
  obtain ⟨h1, h2, h3⟩ := h
  refine ⟨h1, h2, ?_⟩
  rcases h3 with h3 | ⟨b, off, e, hc⟩
  · exact Or.inl h3
  · exact Or.inr ⟨b, off, e, fun i hi j hj => cell_keep (hc i hi j hj) hb⟩
theorem MRow.at_ {w : World} {a : Option Addr} {len k : Nat} {Ms : List (Nat → Int)} (h : MRow w a len Ms) (hk : k < len) :
    ∃ b off M, a = some ⟨b, off, none⟩ ∧ Ms[k]? = some M ∧ w.cell? ⟨b, off + k * 12, none⟩ = some (.int .i64 (M 0)) ∧ w.cell? ⟨b, off + k * 12 + 1, none⟩ = some (.int .i64 (M 1)) ∧ w.cell? ⟨b, off + k * 12 + 2, none⟩ = some (.int .i64 (M 2)) ∧ w.cell? ⟨b, off + k * 12 + 3, none⟩ = some (.int .i64 (M 3)) ∧ w.cell? ⟨b, off + k * 12 + 4, none⟩ = some (.int .i64 (M 4)) ∧ w.cell? ⟨b, off + k * 12 + 5, none⟩ = some (.int .i64 (M 5)) ∧ w.cell? ⟨b, off + k * 12 + 6, none⟩ = some (.int .i64 (M 6)) ∧ w.cell? ⟨b, off + k * 12 + 7, none⟩ = some (.int .i64 (M 7)) ∧ w.cell? ⟨b, off + k * 12 + 8, none⟩ = some (.int .i64 (M 8)) ∧ w.cell? ⟨b, off + k * 12 + 9, none⟩ = some (.int .i64 (M 9)) ∧ w.cell? ⟨b, off + k * 12 + 10, none⟩ = some (.int .i64 (M 10)) ∧ w.cell? ⟨b, off + k * 12 + 11, none⟩ = some (.int .i64 (M 11)) := by
  obtain ⟨h1, h2, h3⟩ := h
  rcases h3 with h3 | ⟨b, off, rfl, hc⟩
  · omega
  · have hk' : k < Ms.length := by omega
    have e : Ms.getD k zeroM = Ms[k] := by simp [List.getD, List.getElem?_eq_getElem hk']
    have c := hc k hk
    rw [e] at c
    exact ⟨b, off, _, rfl, List.getElem?_eq_getElem hk', c 0 (by omega), c 1 (by omega), c 2 (by omega), c 3 (by omega), c 4 (by omega), c 5 (by omega), c 6 (by omega), c 7 (by omega), c 8 (by omega), c 9 (by omega), c 10 (by omega), c 11 (by omega)⟩
theorem rightM_succ {Ms : List (Nat → Int)} {k : Nat} {M : Nat → Int} (h : Ms[k]? = some M) (hr : rightM (Ms.take k) = true) (ho : okM M = true) : rightM (Ms.take (k + 1)) = true := by
  unfold rightM at hr ⊢
  rw [List.take_add_one, List.all_append, hr, h]
  simpa using ho
theorem rightM_bad {Ms : List (Nat → Int)} {k : Nat} {M : Nat → Int} (h : Ms[k]? = some M) (ho : okM M = false) : rightM Ms = false := by
  unfold rightM
  rw [List.all_eq_false]
  exact ⟨M, List.mem_of_getElem? h, by simpa using ho⟩
theorem rightM_all {Ms : List (Nat → Int)} {k : Nat} (hr : rightM (Ms.take k) = true) (h : Ms.length ≤ k) : rightM Ms = true := by
  rwa [List.take_of_length_le h] at hr

theorem right12_yes {w : World} {g cap : Nat} {t : TypeId} {M : Nat → Int} (ho : okM M = true) (h : Blk w g t #[.int .i64 (M 0), .int .i64 (M 1), .int .i64 (M 2), .int .i64 (M 3), .int .i64 (M 4), .int .i64 (M 5), .int .i64 (M 6), .int .i64 (M 7), .int .i64 (M 8), .int .i64 (M 9), .int .i64 (M 10), .int .i64 (M 11)]) :
    Calls Tryz.prog 134 #[.slice (some ⟨g, 0, none⟩) 12 cap] w fun e w' => e = .returned (.bool true) ∧ w = w' :=
  (right_any _ 12 cap [M 0, M 1, M 2, M 3, M 4, M 5, M 6, M 7, M 8, M 9, M 10, M 11] w (row12 h)).mono fun _ _ ⟨he, hw⟩ => ⟨by rw [he, show rightB [M 0, M 1, M 2, M 3, M 4, M 5, M 6, M 7, M 8, M 9, M 10, M 11] = true from ho], hw⟩
theorem right12_no {w : World} {g cap : Nat} {t : TypeId} {M : Nat → Int} (ho : okM M = false) (h : Blk w g t #[.int .i64 (M 0), .int .i64 (M 1), .int .i64 (M 2), .int .i64 (M 3), .int .i64 (M 4), .int .i64 (M 5), .int .i64 (M 6), .int .i64 (M 7), .int .i64 (M 8), .int .i64 (M 9), .int .i64 (M 10), .int .i64 (M 11)]) :
    Calls Tryz.prog 134 #[.slice (some ⟨g, 0, none⟩) 12 cap] w fun e w' => e = .returned (.bool false) ∧ w = w' :=
  (right_any _ 12 cap [M 0, M 1, M 2, M 3, M 4, M 5, M 6, M 7, M 8, M 9, M 10, M 11] w (row12 h)).mono fun _ _ ⟨he, hw⟩ => ⟨by rw [he, show rightB [M 0, M 1, M 2, M 3, M 4, M 5, M 6, M 7, M 8, M 9, M 10, M 11] = false from ho], hw⟩

set_option maxHeartbeats 1000000 in
theorem mright_any (a : Option Addr) (len cap : Nat) (Ms : List (Nat → Int)) (w : World) (row : MRow w a len Ms) :
    Calls Tryz.prog 101 #[.slice a len cap] w fun e w' => e = .returned (.bool (rightM Ms)) ∧ Below w.heap.size w w' := by
  have HL := Lib.hid row.1
  have hbig := row.2.1
  have HRow := Lib.hid row
  clear row
  go_enter Tryz.func101, Tryz.ntmps101
  go_wp2
  go_loopw [4, 7] (fun _ i wr => ∃ k : Nat, k ≤ len ∧ i = .int .i64 k ∧ rightM (Ms.take k) = true ∧ Below w.heap.size w wr) (fun _ i _ => len - (intOf i).toNat)
  case atStart => exact ⟨0, Nat.zero_le _, rfl, rfl, Below.refl _ _⟩
  case round =>
    obtain ⟨k, hk, rfl, hr, hb⟩ := hrel
    have HR := Lib.hid hr
    have HB := Lib.hid hb
    clear hr hb
    by_cases hlt : k < len
    · obtain ⟨b, off, M, rfl, hv, c0, c1, c2, c3, c4, c5, c6, c7, c8, c9, c10, c11⟩ := (mrow_keep HRow.out HB.out).at_ hlt
      have HV := Lib.hid hv
      clear hv
      by_cases ho : okM M = true
      · have HO := Lib.hid ho
        clear ho
        go_wp2_with (go_at_call 134; refine (right12_yes HO.out (Blk.new _ _ _)).mono ?_; rintro e w' ⟨rfl, rfl⟩)
        go_roundw
        case rel => exact ⟨k + 1, by omega, by go_num, rightM_succ HV.out HR.out HO.out, balloc HB.out _⟩
        case measure => simp [intOf]; omega
      · have ho' : okM M = false := by simpa using ho
        have HO := Lib.hid ho'
        clear ho ho'
        go_wp2_with (go_at_call 134; refine (right12_no HO.out (Blk.new _ _ _)).mono ?_; rintro e w' ⟨rfl, rfl⟩)
        go_ret
        exact ⟨ret_bool (rightM_bad HV.out HO.out).symm, balloc HB.out _⟩
    · go_wp2
      go_ret
      exact ⟨ret_bool (rightM_all HR.out (by rw [HL.out]; omega)).symm, HB.out⟩

theorem rright12 {w : World} {g cap : Nat} {t : TypeId} {M : Nat → Int} (h : Blk w g t #[.int .i64 (M 0), .int .i64 (M 1), .int .i64 (M 2), .int .i64 (M 3), .int .i64 (M 4), .int .i64 (M 5), .int .i64 (M 6), .int .i64 (M 7), .int .i64 (M 8), .int .i64 (M 9), .int .i64 (M 10), .int .i64 (M 11)]) :
    Calls Tryz.prog 132 #[.slice (some ⟨g, 0, none⟩) 12 cap] w fun e w' => e = .returned (.bool (okM M)) ∧ w = w' :=
  rright_any _ 12 cap [M 0, M 1, M 2, M 3, M 4, M 5, M 6, M 7, M 8, M 9, M 10, M 11] w (row12 h)

set_option maxHeartbeats 400000 in
theorem rmright_any (M : Nat → Int) (w : World) :
    Calls Tryz.prog 97 #[.agg #[.int .i64 (M 0), .int .i64 (M 1), .int .i64 (M 2), .int .i64 (M 3), .int .i64 (M 4), .int .i64 (M 5), .int .i64 (M 6), .int .i64 (M 7), .int .i64 (M 8), .int .i64 (M 9), .int .i64 (M 10), .int .i64 (M 11)]] w fun e w' => e = .returned (.bool (okM M)) ∧ Below w.heap.size w w' := by
  go_enter Tryz.func97, Tryz.ntmps97
  go_wp2_with (go_at_call 132; refine (rright12 (M := M) (Blk.new _ _ _)).mono ?_; rintro e w' ⟨rfl, rfl⟩)
  go_ret
  exact ⟨rfl, alloc_below _ _⟩
theorem rmright_yes {M : Nat → Int} (h : okM M = true) (w : World) :
    Calls Tryz.prog 97 #[.agg #[.int .i64 (M 0), .int .i64 (M 1), .int .i64 (M 2), .int .i64 (M 3), .int .i64 (M 4), .int .i64 (M 5), .int .i64 (M 6), .int .i64 (M 7), .int .i64 (M 8), .int .i64 (M 9), .int .i64 (M 10), .int .i64 (M 11)]] w fun e w' => e = .returned (.bool true) ∧ Below w.heap.size w w' :=
  (rmright_any M w).mono fun _ _ ⟨he, hw⟩ => ⟨by rw [he, h], hw⟩
theorem rmright_no {M : Nat → Int} (h : okM M = false) (w : World) :
    Calls Tryz.prog 97 #[.agg #[.int .i64 (M 0), .int .i64 (M 1), .int .i64 (M 2), .int .i64 (M 3), .int .i64 (M 4), .int .i64 (M 5), .int .i64 (M 6), .int .i64 (M 7), .int .i64 (M 8), .int .i64 (M 9), .int .i64 (M 10), .int .i64 (M 11)]] w fun e w' => e = .returned (.bool false) ∧ Below w.heap.size w w' :=
  (rmright_any M w).mono fun _ _ ⟨he, hw⟩ => ⟨by rw [he, h], hw⟩

end Go.Proofs.YtcpgkkphibhdfaaGreat
/-
  What package affine's Scale, Same, Move and Turn answer, and the reference's.
-/
namespace Go.Proofs.YtcpgkkphibhdfaaGreat
open Go.RowKit

def diagM (V : Nat → Int) (k : Nat) : Int := if k = 0 then V 0 else if k = 5 then V 1 else if k = 10 then V 2 else 0
def sameM : Nat → Int := diagM (fun _ => 65536)
def moveM (V : Nat → Int) (k : Nat) : Int := if k = 3 then V 0 else if k = 7 then V 1 else if k = 11 then V 2 else sameM k
/-- a quarter round axis a -/
def turnM (a : Int) (k : Nat) : Int :=
  if a = 0 then [65536, 0, 0, 0, 0, 0, -65536, 0, 0, 65536, 0, 0].getD k 0
  else if a = 1 then [0, 0, 65536, 0, 0, 65536, 0, 0, -65536, 0, 0, 0].getD k 0
  else [0, -65536, 0, 0, 65536, 0, 0, 0, 0, 0, 65536, 0].getD k 0

/-- what is known of a world, in the place of the world -/
theorem fin {Q : World → Prop} {W : World} (P : World → Prop) (h : P W) (k : ∀ W', P W' → Q W') : Q W := k W h
theorem bdrewn {n : Nat} {w a : World} (h : Below n w a) : Below n w a.drew := ⟨h.os, h.tape, h.output, h.size, h.block⟩

end Go.Proofs.YtcpgkkphibhdfaaGreat
/-
  What package affine's Move answers, and the reference's.
-/
namespace Go.Proofs.YtcpgkkphibhdfaaGreat
open Go.RowKit

end Go.Proofs.YtcpgkkphibhdfaaGreat
/-
  What package affine's Turn answers, and the reference's.
-/
namespace Go.Proofs.YtcpgkkphibhdfaaGreat
open Go.RowKit

theorem tmod3 (a : Int) : (a.tmod 3 = -2 ∧ a % 3 = 1) ∨ (a.tmod 3 = -1 ∧ a % 3 = 2) ∨ (a.tmod 3 = 0 ∧ a % 3 = 0) ∨ (a.tmod 3 = 1 ∧ a % 3 = 1) ∨ (a.tmod 3 = 2 ∧ a % 3 = 2) := by
  obtain ⟨h1, h2, _⟩ := tmod_facts a 3 (by decide)
  have h3 := h2 (by decide)
  generalize a.tdiv 3 = q at *
  generalize a.tmod 3 = r at *
  omega

end Go.Proofs.YtcpgkkphibhdfaaGreat
/-
  What package affine's along and column answer: a row's products with a vector, and one number more, added; a column.
-/
namespace Go.Proofs.YtcpgkkphibhdfaaGreat
open Go.RowKit

/-- the products of a row and a vector, place by place -/
def alP (M : Nat → Int) (r : Nat) (V : Nat → Int) (j : Nat) : Int := mulV (M (4 * r + j)) (V j)
def alPE (M : Nat → Int) (r : Nat) (V : Nat → Int) (j : Nat) : Int := mulE (M (4 * r + j)) (V j)
def alF (M : Nat → Int) (r : Nat) (V : Nat → Int) : Int := first3 (alPE M r V 0) (alPE M r V 1) (alPE M r V 2)
/-- these, and one number more, added -/
def alL (M : Nat → Int) (r : Nat) (V : Nat → Int) (l : Int) : List Int := [alP M r V 0, alP M r V 1, alP M r V 2, l]
def alV (M : Nat → Int) (r : Nat) (V : Nat → Int) (l : Int) : Int := if alF M r V = 0 then addV (alL M r V l) else 0
def alE (M : Nat → Int) (r : Nat) (V : Nat → Int) (l : Int) : Int := if alF M r V = 0 then addE (alL M r V l) else alF M r V

theorem al_yes {M : Nat → Int} {r : Nat} {V : Nat → Int} (l : Int) (h : alF M r V = 0) : alV M r V l = addV (alL M r V l) ∧ alE M r V l = addE (alL M r V l) := by
  unfold alV alE; rw [if_pos h, if_pos h]; exact ⟨rfl, rfl⟩
theorem al_no {M : Nat → Int} {r : Nat} {V : Nat → Int} (l : Int) (h : alF M r V ≠ 0) : alV M r V l = 0 ∧ alE M r V l = alF M r V := by
  unfold alV alE; rw [if_neg h, if_neg h]; exact ⟨rfl, rfl⟩

/-- the four numbers that are added, so far -/
def termTo (f : Nat → Int) (l : Int) (k j : Nat) : Value := if j = 3 then .int .i64 l else laidTo f k j
theorem term_step (f : Nat → Int) (l : Int) (k j : Nat) (hk : k < 3) : (if j = k then Value.int .i64 (f k) else termTo f l k j) = termTo f l (k + 1) j := by
  unfold termTo
  by_cases e : j = 3
  · rw [if_neg (by omega), if_pos e, if_pos e]
  · rw [if_neg e, if_neg e]; exact laid_step f k j
theorem term_start (w : World) (t : TypeId) (f : Nat → Int) (l : Int) : (w.alloc (.cells #[.int .i64 0, .int .i64 0, .int .i64 0, .int .i64 l] t)).rowIs w.heap.size t 4 (termTo f l 0) := by
  refine (World.rowIs_alloc w _ t (termTo f l 0) (fun i hi => ?_))
  obtain rfl | rfl | rfl | rfl : i = 0 ∨ i = 1 ∨ i = 2 ∨ i = 3 := by simp at hi; omega
  · rfl
  · rfl
  · rfl
  · rfl
theorem rowIs_at {w : World} {b b' : Nat} {t : TypeId} {n : Nat} {f : Nat → Value} (h : w.rowIs b t n f) (e : b = b') : w.rowIs b' t n f := e ▸ h

/-- the number that each row has at a place -/
def colM (M : Nat → Int) (p j : Nat) : Int := M (4 * j + p)

end Go.Proofs.YtcpgkkphibhdfaaGreat
/-
  What the reference's sum of layer 3 answers.
-/
namespace Go.Proofs.YtcpgkkphibhdfaaGreat
open Go.RowKit

theorem rightB_rot (l a b c : Int) : rightB [l, a, b, c] = rightB [a, b, c, l] := by
  unfold rightB
  simp only [List.all_cons, List.all_nil, Bool.and_true]
  cases okB l <;> cases okB a <;> cases okB b <;> cases okB c <;> rfl
theorem addOk_rot (l a b c : Int) : addOk [l, a, b, c] = addOk [a, b, c, l] := by unfold addOk; rw [rightB_rot]; rfl
theorem sum_rot (l a b c : Int) : [l, a, b, c].sum = [a, b, c, l].sum := by simp; omega
theorem addV_rot (l a b c : Int) : addV [l, a, b, c] = addV [a, b, c, l] := by unfold addV; rw [addOk_rot, sum_rot]
theorem addE_rot (l a b c : Int) : addE [l, a, b, c] = addE [a, b, c, l] := by unfold addE; rw [addOk_rot, sum_rot]

/-- the list that the reference makes -/
def alR (M : Nat → Int) (r : Nat) (V : Nat → Int) (l : Int) : List Int := [l, alP M r V 0, alP M r V 1, alP M r V 2]
theorem alR_take (M : Nat → Int) (r : Nat) (V : Nat → Int) (l : Int) {k : Nat} (hk : k < 3) : (alR M r V l).take (k + 1 + 1) = (alR M r V l).take (k + 1) ++ [alP M r V k] := by
  obtain rfl | rfl | rfl : k = 0 ∨ k = 1 ∨ k = 2 := by omega
  · rfl
  · rfl
  · rfl
theorem owns_one (w : World) (base : Nat) (x : Int) (hb : base ≤ w.heap.size) (N : Nat) (hN : w.heap.size = N) : Owns (w.alloc (.cells #[.int .i64 x] 36)) base (.slice (some ⟨N, 0, none⟩) 1 1) 1 [x] := by
  subst hN
  exact World.ownsRow_lit w #[.int .i64 x] 1 hb (by unfold maxLen; omega) rfl

end Go.Proofs.YtcpgkkphibhdfaaGreat
/-
  What package affine's pair answers: the product of two matrices.
-/
namespace Go.Proofs.YtcpgkkphibhdfaaGreat
open Go.RowKit

/-- the first error of n, place by place -/
def firstN (e : Nat → Int) : Nat → Int
  | 0 => 0
  | n + 1 => if firstN e n = 0 then e n else firstN e n
theorem firstN_none {e : Nat → Int} : ∀ {n : Nat}, (∀ j, j < n → e j = 0) → firstN e n = 0
  | 0, _ => rfl
  | n + 1, h => by
    unfold firstN
    rw [if_pos (firstN_none (fun j hj => h j (by omega)))]
    exact h n (by omega)
theorem firstN_at {e : Nat → Int} {k : Nat} (h : ∀ j, j < k → e j = 0) (he : e k ≠ 0) : ∀ {n : Nat}, k < n → firstN e n = e k
  | 0, hk => by omega
  | n + 1, hk => by
    unfold firstN
    by_cases c : k = n
    · subst c; rw [if_pos (firstN_none h)]
    · have i := firstN_at h he (n := n) (by omega)
      rw [if_neg (by rw [i]; exact he), i]
theorem firstN_zero {e : Nat → Int} : ∀ {n : Nat}, firstN e n = 0 → ∀ j, j < n → e j = 0
  | 0, _, j, hj => by omega
  | n + 1, h, j, hj => by
    unfold firstN at h
    by_cases c : firstN e n = 0
    · rw [if_pos c] at h
      by_cases d : j = n
      · rw [d]; exact h
      · exact firstN_zero c j (by omega)
    · rw [if_neg c] at h; exact absurd h c

/-- what is added besides the products -/
def pairL (A : Nat → Int) (r p : Nat) : Int := if p = 3 then A (4 * r + 3) else 0
def pV (A B : Nat → Int) (k : Nat) : Int := alV A (k / 4) (colM B (k % 4)) (pairL A (k / 4) (k % 4))
def pE (A B : Nat → Int) (k : Nat) : Int := alE A (k / 4) (colM B (k % 4)) (pairL A (k / 4) (k % 4))
/-- the product of two that may be -/
def prodE2 (A B : Nat → Int) : Int := firstN (pE A B) 12
def prodM (A B : Nat → Int) (k : Nat) : Int := gate (prodE2 A B) (pV A B k)
theorem pV_at (A B : Nat → Int) {r p : Nat} (hp : p < 4) : pV A B (4 * r + p) = alV A r (colM B p) (pairL A r p) := by
  unfold pV; rw [show (4 * r + p) / 4 = r by omega, show (4 * r + p) % 4 = p by omega]
theorem pE_at (A B : Nat → Int) {r p : Nat} (hp : p < 4) : pE A B (4 * r + p) = alE A r (colM B p) (pairL A r p) := by
  unfold pE; rw [show (4 * r + p) / 4 = r by omega, show (4 * r + p) % 4 = p by omega]
theorem prod_ok {A B : Nat → Int} (h : prodE2 A B = 0) (k : Nat) : prodM A B k = pV A B k := by unfold prodM; rw [h]; rfl
theorem prod_no {A B : Nat → Int} (h : prodE2 A B ≠ 0) (k : Nat) : prodM A B k = 0 := by unfold prodM gate; rw [if_neg h]

theorem laid12_start (w : World) (t : TypeId) (f : Nat → Int) : (w.alloc (.cells #[.int .i64 0, .int .i64 0, .int .i64 0, .int .i64 0, .int .i64 0, .int .i64 0, .int .i64 0, .int .i64 0, .int .i64 0, .int .i64 0, .int .i64 0, .int .i64 0] t)).rowIs w.heap.size t 12 (laidTo f 0) := by
  refine (World.rowIs_alloc w _ t (laidTo f 0) (fun i hi => ?_))
  rcases lt12 (k := i) (by simpa using hi) with rfl | rfl | rfl | rfl | rfl | rfl | rfl | rfl | rfl | rfl | rfl | rfl <;> rfl
theorem blk_of_row {w : World} {b : Nat} {t : TypeId} {f : Nat → Int} (h : w.rowIs b t 12 (laidTo f (4 * 3))) : Blk w b t #[.int .i64 (f 0), .int .i64 (f 1), .int .i64 (f 2), .int .i64 (f 3), .int .i64 (f 4), .int .i64 (f 5), .int .i64 (f 6), .int .i64 (f 7), .int .i64 (f 8), .int .i64 (f 9), .int .i64 (f 10), .int .i64 (f 11)] := by
  obtain ⟨c, hh, hs, hc⟩ := h
  have e : c = #[.int .i64 (f 0), .int .i64 (f 1), .int .i64 (f 2), .int .i64 (f 3), .int .i64 (f 4), .int .i64 (f 5), .int .i64 (f 6), .int .i64 (f 7), .int .i64 (f 8), .int .i64 (f 9), .int .i64 (f 10), .int .i64 (f 11)] := by
    apply Array.ext
    · simp [hs]
    · intro i h1 h2
      have hi := hc i (by omega)
      rw [Array.getElem?_eq_getElem h1] at hi
      rcases lt12 (k := i) (by omega) with rfl | rfl | rfl | rfl | rfl | rfl | rfl | rfl | rfl | rfl | rfl | rfl <;> simpa [laidTo] using hi
  unfold Blk
  rw [hh, e]
theorem rangeM {w : World} {g : Nat} {t : TypeId} {A : Nat → Int} (hA : Blk w g t #[.int .i64 (A 0), .int .i64 (A 1), .int .i64 (A 2), .int .i64 (A 3), .int .i64 (A 4), .int .i64 (A 5), .int .i64 (A 6), .int .i64 (A 7), .int .i64 (A 8), .int .i64 (A 9), .int .i64 (A 10), .int .i64 (A 11)]) : w.rangeAt g 0 [.int .i64 (A 0), .int .i64 (A 1), .int .i64 (A 2), .int .i64 (A 3), .int .i64 (A 4), .int .i64 (A 5), .int .i64 (A 6), .int .i64 (A 7), .int .i64 (A 8), .int .i64 (A 9), .int .i64 (A 10), .int .i64 (A 11)] := fun j v hv => by
  rw [Nat.zero_add, hA.cell j]
  simpa using hv
theorem range2 {w : World} {g g' : Nat} {t t' : TypeId} {A B : Nat → Int} (hA : Blk w g t #[.int .i64 (A 0), .int .i64 (A 1), .int .i64 (A 2), .int .i64 (A 3), .int .i64 (A 4), .int .i64 (A 5), .int .i64 (A 6), .int .i64 (A 7), .int .i64 (A 8), .int .i64 (A 9), .int .i64 (A 10), .int .i64 (A 11)]) (hB : Blk w g' t' #[.int .i64 (B 0), .int .i64 (B 1), .int .i64 (B 2), .int .i64 (B 3), .int .i64 (B 4), .int .i64 (B 5), .int .i64 (B 6), .int .i64 (B 7), .int .i64 (B 8), .int .i64 (B 9), .int .i64 (B 10), .int .i64 (B 11)]) : w.rangeAt g 0 [.int .i64 (A 0), .int .i64 (A 1), .int .i64 (A 2), .int .i64 (A 3), .int .i64 (A 4), .int .i64 (A 5), .int .i64 (A 6), .int .i64 (A 7), .int .i64 (A 8), .int .i64 (A 9), .int .i64 (A 10), .int .i64 (A 11)] ∧ w.rangeAt g' 0 [.int .i64 (B 0), .int .i64 (B 1), .int .i64 (B 2), .int .i64 (B 3), .int .i64 (B 4), .int .i64 (B 5), .int .i64 (B 6), .int .i64 (B 7), .int .i64 (B 8), .int .i64 (B 9), .int .i64 (B 10), .int .i64 (B 11)] := ⟨rangeM hA, rangeM hB⟩
theorem sizeM (A : Nat → Int) : (Tryz.prog.info? 38).map (·.size) = some ([.int .i64 (A 0), .int .i64 (A 1), .int .i64 (A 2), .int .i64 (A 3), .int .i64 (A 4), .int .i64 (A 5), .int .i64 (A 6), .int .i64 (A 7), .int .i64 (A 8), .int .i64 (A 9), .int .i64 (A 10), .int .i64 (A 11)] : List Value).length := by kernel_rfl

end Go.Proofs.YtcpgkkphibhdfaaGreat
/-
  What the reference's Two of layer 3 answers, of two matrices that may be.
-/
namespace Go.Proofs.YtcpgkkphibhdfaaGreat
open Go.RowKit

def v3 (x y z : Int) (j : Nat) : Int := [x, y, z].getD j 0
end Go.Proofs.YtcpgkkphibhdfaaGreat
/-
  What package affine's Apply answers, and the reference's.
-/
namespace Go.Proofs.YtcpgkkphibhdfaaGreat
open Go.RowKit

def okV3 (V : Nat → Int) : Bool := ok3 (V 0) (V 1) (V 2)
def apK (M V : Nat → Int) (r : Nat) : Int := alV M r V (M (4 * r + 3))
def apEK (M V : Nat → Int) (r : Nat) : Int := alE M r V (M (4 * r + 3))
/-- a matrix applied to a vector -/
def appE (M V : Nat → Int) : Int := if okM M && okV3 V then first3 (apEK M V 0) (apEK M V 1) (apEK M V 2) else 1
def appV (M V : Nat → Int) (r : Nat) : Int := gate (appE M V) (apK M V r)
theorem appE_yes {M V : Nat → Int} (h : okM M = true) (h' : okV3 V = true) : appE M V = first3 (apEK M V 0) (apEK M V 1) (apEK M V 2) := by unfold appE; rw [h, h']; rfl
theorem appE_no {M V : Nat → Int} (h : (okM M && okV3 V) = false) : appE M V = 1 := by unfold appE; rw [h]; rfl
theorem appV_no {M V : Nat → Int} (h : (okM M && okV3 V) = false) (r : Nat) : appV M V r = 0 := by unfold appV; rw [appE_no h]; rfl
theorem appV_of {M V : Nat → Int} {e : Int} (h : appE M V = e) (r : Nat) : appV M V r = gate e (apK M V r) := by unfold appV; rw [h]

theorem mrow1 {w : World} {g : Nat} {t : TypeId} {M : Nat → Int} (h : Blk w g t #[.int .i64 (M 0), .int .i64 (M 1), .int .i64 (M 2), .int .i64 (M 3), .int .i64 (M 4), .int .i64 (M 5), .int .i64 (M 6), .int .i64 (M 7), .int .i64 (M 8), .int .i64 (M 9), .int .i64 (M 10), .int .i64 (M 11)]) : MRow w (some ⟨g, 0, none⟩) 1 [M] := by
  refine ⟨rfl, by omega, Or.inr ⟨_, _, rfl, fun i hi j hj => ?_⟩⟩
  obtain rfl : i = 0 := by omega
  have := h.at12 hj
  simpa using this
theorem mright1 {M : Nat → Int} {b : Bool} (ho : okM M = b) {w : World} {g cap : Nat} {t : TypeId} (h : Blk w g t #[.int .i64 (M 0), .int .i64 (M 1), .int .i64 (M 2), .int .i64 (M 3), .int .i64 (M 4), .int .i64 (M 5), .int .i64 (M 6), .int .i64 (M 7), .int .i64 (M 8), .int .i64 (M 9), .int .i64 (M 10), .int .i64 (M 11)]) :
    Calls Tryz.prog 101 #[.slice (some ⟨g, 0, none⟩) 1 cap] w fun e w' => e = .returned (.bool b) ∧ Below w.heap.size w w' :=
  (mright_any _ 1 cap [M] w (mrow1 h)).mono fun _ _ ⟨he, hw⟩ => ⟨by rw [he]; unfold rightM; simp [ho], hw⟩
theorem vright1 {V : Nat → Int} {b : Bool} (ho : okV3 V = b) {w : World} {g cap : Nat} {t : TypeId} (h : Blk w g t #[.int .i64 (V 0), .int .i64 (V 1), .int .i64 (V 2)]) :
    Calls Tryz.prog 135 #[.slice (some ⟨g, 0, none⟩) 1 cap] w fun e w' => e = .returned (.bool b) ∧ Below w.heap.size w w' :=
  (vright_any _ 1 cap [(V 0, V 1, V 2)] w (vrow1 h)).mono fun _ _ ⟨he, hw⟩ => ⟨by rw [he, rightV1]; unfold okV3 at ho; rw [ho], hw⟩
theorem rone3 {V : Nat → Int} {b : Bool} (ho : okV3 V = b) (w : World) :
    Calls Tryz.prog 164 #[.agg #[.int .i64 (V 0), .int .i64 (V 1), .int .i64 (V 2)]] w fun e w' => e = .returned (.bool b) ∧ Below w.heap.size w w' :=
  (rone_any (V 0) (V 1) (V 2) w).mono fun _ _ ⟨he, hw⟩ => ⟨by rw [he]; unfold okV3 at ho; rw [ho], hw⟩
theorem rmright_b {M : Nat → Int} {b : Bool} (h : okM M = b) (w : World) :
    Calls Tryz.prog 97 #[.agg #[.int .i64 (M 0), .int .i64 (M 1), .int .i64 (M 2), .int .i64 (M 3), .int .i64 (M 4), .int .i64 (M 5), .int .i64 (M 6), .int .i64 (M 7), .int .i64 (M 8), .int .i64 (M 9), .int .i64 (M 10), .int .i64 (M 11)]] w fun e w' => e = .returned (.bool b) ∧ Below w.heap.size w w' :=
  (rmright_any M w).mono fun _ _ ⟨he, hw⟩ => ⟨by rw [he, h], hw⟩

end Go.Proofs.YtcpgkkphibhdfaaGreat
/-
  What the reference's Apply of layer 3 answers.
-/
namespace Go.Proofs.YtcpgkkphibhdfaaGreat
open Go.RowKit

end Go.Proofs.YtcpgkkphibhdfaaGreat
/-
  What package affine's Mul answers: the product of a list of matrices.
-/
namespace Go.Proofs.YtcpgkkphibhdfaaGreat
open Go.RowKit

/-- the product from P on, and the first error -/
def foldM (P : Nat → Int) : List (Nat → Int) → (Nat → Int) × Int
  | [] => (P, 0)
  | M :: Ms => if prodE2 P M = 0 then foldM (prodM P M) Ms else (zeroM, prodE2 P M)
/-- the product of a list, and the error -/
def mulMs (Ms : List (Nat → Int)) : (Nat → Int) × Int :=
  if rightM Ms then (match Ms with | [] => (sameM, 0) | M :: Ms => foldM M Ms) else (zeroM, 1)
theorem mulMs_no {Ms : List (Nat → Int)} (h : rightM Ms = false) : mulMs Ms = (zeroM, 1) := by unfold mulMs; rw [h]; rfl
theorem mulMs_cons {M : Nat → Int} {Ms : List (Nat → Int)} (h : rightM (M :: Ms) = true) : mulMs (M :: Ms) = foldM M Ms := by unfold mulMs; rw [h]; rfl
theorem foldM_ok {P M : Nat → Int} {Ms : List (Nat → Int)} {k : Nat} (h : Ms[k]? = some M) (he : prodE2 P M = 0) : foldM P (Ms.drop k) = foldM (prodM P M) (Ms.drop (k + 1)) := by
  obtain ⟨hk, e⟩ := List.getElem?_eq_some_iff.1 h
  rw [List.drop_eq_getElem_cons hk, e]
  show (if prodE2 P M = 0 then _ else _) = _
  rw [if_pos he]
theorem foldM_no {P M : Nat → Int} {Ms : List (Nat → Int)} {k : Nat} (h : Ms[k]? = some M) (he : prodE2 P M ≠ 0) : foldM P (Ms.drop k) = (zeroM, prodE2 P M) := by
  obtain ⟨hk, e⟩ := List.getElem?_eq_some_iff.1 h
  rw [List.drop_eq_getElem_cons hk, e]
  show (if prodE2 P M = 0 then _ else _) = _
  rw [if_neg he]

theorem mright_b {a : Option Addr} {len cap : Nat} {Ms : List (Nat → Int)} {w : World} {b : Bool} (hr : rightM Ms = b) (row : MRow w a len Ms) :
    Calls Tryz.prog 101 #[.slice a len cap] w fun e w' => e = .returned (.bool b) ∧ Below w.heap.size w w' :=
  (mright_any a len cap Ms w row).mono fun _ _ ⟨he, hw⟩ => ⟨by rw [he, hr], hw⟩

/-- the cells of a slice of matrices, and of what is behind the first one -/
theorem MRow.tail {w : World} {b off n : Nat} {M : Nat → Int} {Ms : List (Nat → Int)} (h : MRow w (some ⟨b, off, none⟩) (n + 1) (M :: Ms)) : MRow w (some ⟨b, off + 12, none⟩) n Ms := by
  obtain ⟨h1, h2, h3⟩ := h
  refine ⟨by simpa using h1, by omega, Or.inr ⟨b, off + 12, rfl, fun i hi j hj => ?_⟩⟩
  rcases h3 with h3 | ⟨b', off', e, hc⟩
  · omega
  · simp at e
    obtain ⟨rfl, rfl⟩ := e
    have := hc (i + 1) (by omega) j hj
    rw [show off + (i + 1) * 12 + j = off + 12 + i * 12 + j by omega] at this
    simpa using this
theorem MRow.head {w : World} {b off n : Nat} {M : Nat → Int} {Ms : List (Nat → Int)} (h : MRow w (some ⟨b, off, none⟩) (n + 1) (M :: Ms)) : w.cell? ⟨b, off, none⟩ = some (.int .i64 (M 0)) ∧ w.cell? ⟨b, off + 1, none⟩ = some (.int .i64 (M 1)) ∧ w.cell? ⟨b, off + 2, none⟩ = some (.int .i64 (M 2)) ∧ w.cell? ⟨b, off + 3, none⟩ = some (.int .i64 (M 3)) ∧ w.cell? ⟨b, off + 4, none⟩ = some (.int .i64 (M 4)) ∧ w.cell? ⟨b, off + 5, none⟩ = some (.int .i64 (M 5)) ∧ w.cell? ⟨b, off + 6, none⟩ = some (.int .i64 (M 6)) ∧ w.cell? ⟨b, off + 7, none⟩ = some (.int .i64 (M 7)) ∧ w.cell? ⟨b, off + 8, none⟩ = some (.int .i64 (M 8)) ∧ w.cell? ⟨b, off + 9, none⟩ = some (.int .i64 (M 9)) ∧ w.cell? ⟨b, off + 10, none⟩ = some (.int .i64 (M 10)) ∧ w.cell? ⟨b, off + 11, none⟩ = some (.int .i64 (M 11)) := by
  obtain ⟨h1, h2, h3⟩ := h
  rcases h3 with h3 | ⟨b', off', e, hc⟩
  · omega
  · simp at e
    obtain ⟨rfl, rfl⟩ := e
    have c := hc 0 (by omega)
    simp only [Nat.zero_mul, Nat.add_zero] at c
    exact ⟨c 0 (by omega), c 1 (by omega), c 2 (by omega), c 3 (by omega), c 4 (by omega), c 5 (by omega), c 6 (by omega), c 7 (by omega), c 8 (by omega), c 9 (by omega), c 10 (by omega), c 11 (by omega)⟩

/-- twelve stores into a block, and into another one -/
theorem Blk.set12 {w : World} {g : Nat} {t : TypeId} {x0 x1 x2 x3 x4 x5 x6 x7 x8 x9 x10 x11 u0 u1 u2 u3 u4 u5 u6 u7 u8 u9 u10 u11 : Value} (h : Blk w g t #[x0, x1, x2, x3, x4, x5, x6, x7, x8, x9, x10, x11]) : Blk ((((((((((((w.setCell ⟨g, 0, none⟩ u0).setCell ⟨g, 1, none⟩ u1).setCell ⟨g, 2, none⟩ u2).setCell ⟨g, 3, none⟩ u3).setCell ⟨g, 4, none⟩ u4).setCell ⟨g, 5, none⟩ u5).setCell ⟨g, 6, none⟩ u6).setCell ⟨g, 7, none⟩ u7).setCell ⟨g, 8, none⟩ u8).setCell ⟨g, 9, none⟩ u9).setCell ⟨g, 10, none⟩ u10).setCell ⟨g, 11, none⟩ u11) g t #[u0, u1, u2, u3, u4, u5, u6, u7, u8, u9, u10, u11] := by
  have h0 : Blk (w.setCell ⟨g, 0, none⟩ u0) g t #[u0, x1, x2, x3, x4, x5, x6, x7, x8, x9, x10, x11] := by simpa using h.set_ 0 u0
  have h1 : Blk ((w.setCell ⟨g, 0, none⟩ u0).setCell ⟨g, 1, none⟩ u1) g t #[u0, u1, x2, x3, x4, x5, x6, x7, x8, x9, x10, x11] := by simpa using h0.set_ 1 u1
  have h2 : Blk (((w.setCell ⟨g, 0, none⟩ u0).setCell ⟨g, 1, none⟩ u1).setCell ⟨g, 2, none⟩ u2) g t #[u0, u1, u2, x3, x4, x5, x6, x7, x8, x9, x10, x11] := by simpa using h1.set_ 2 u2
  have h3 : Blk ((((w.setCell ⟨g, 0, none⟩ u0).setCell ⟨g, 1, none⟩ u1).setCell ⟨g, 2, none⟩ u2).setCell ⟨g, 3, none⟩ u3) g t #[u0, u1, u2, u3, x4, x5, x6, x7, x8, x9, x10, x11] := by simpa using h2.set_ 3 u3
  have h4 : Blk (((((w.setCell ⟨g, 0, none⟩ u0).setCell ⟨g, 1, none⟩ u1).setCell ⟨g, 2, none⟩ u2).setCell ⟨g, 3, none⟩ u3).setCell ⟨g, 4, none⟩ u4) g t #[u0, u1, u2, u3, u4, x5, x6, x7, x8, x9, x10, x11] := by simpa using h3.set_ 4 u4
  have h5 : Blk ((((((w.setCell ⟨g, 0, none⟩ u0).setCell ⟨g, 1, none⟩ u1).setCell ⟨g, 2, none⟩ u2).setCell ⟨g, 3, none⟩ u3).setCell ⟨g, 4, none⟩ u4).setCell ⟨g, 5, none⟩ u5) g t #[u0, u1, u2, u3, u4, u5, x6, x7, x8, x9, x10, x11] := by simpa using h4.set_ 5 u5
  have h6 : Blk (((((((w.setCell ⟨g, 0, none⟩ u0).setCell ⟨g, 1, none⟩ u1).setCell ⟨g, 2, none⟩ u2).setCell ⟨g, 3, none⟩ u3).setCell ⟨g, 4, none⟩ u4).setCell ⟨g, 5, none⟩ u5).setCell ⟨g, 6, none⟩ u6) g t #[u0, u1, u2, u3, u4, u5, u6, x7, x8, x9, x10, x11] := by simpa using h5.set_ 6 u6
  have h7 : Blk ((((((((w.setCell ⟨g, 0, none⟩ u0).setCell ⟨g, 1, none⟩ u1).setCell ⟨g, 2, none⟩ u2).setCell ⟨g, 3, none⟩ u3).setCell ⟨g, 4, none⟩ u4).setCell ⟨g, 5, none⟩ u5).setCell ⟨g, 6, none⟩ u6).setCell ⟨g, 7, none⟩ u7) g t #[u0, u1, u2, u3, u4, u5, u6, u7, x8, x9, x10, x11] := by simpa using h6.set_ 7 u7
  have h8 : Blk (((((((((w.setCell ⟨g, 0, none⟩ u0).setCell ⟨g, 1, none⟩ u1).setCell ⟨g, 2, none⟩ u2).setCell ⟨g, 3, none⟩ u3).setCell ⟨g, 4, none⟩ u4).setCell ⟨g, 5, none⟩ u5).setCell ⟨g, 6, none⟩ u6).setCell ⟨g, 7, none⟩ u7).setCell ⟨g, 8, none⟩ u8) g t #[u0, u1, u2, u3, u4, u5, u6, u7, u8, x9, x10, x11] := by simpa using h7.set_ 8 u8
  have h9 : Blk ((((((((((w.setCell ⟨g, 0, none⟩ u0).setCell ⟨g, 1, none⟩ u1).setCell ⟨g, 2, none⟩ u2).setCell ⟨g, 3, none⟩ u3).setCell ⟨g, 4, none⟩ u4).setCell ⟨g, 5, none⟩ u5).setCell ⟨g, 6, none⟩ u6).setCell ⟨g, 7, none⟩ u7).setCell ⟨g, 8, none⟩ u8).setCell ⟨g, 9, none⟩ u9) g t #[u0, u1, u2, u3, u4, u5, u6, u7, u8, u9, x10, x11] := by simpa using h8.set_ 9 u9
  have h10 : Blk (((((((((((w.setCell ⟨g, 0, none⟩ u0).setCell ⟨g, 1, none⟩ u1).setCell ⟨g, 2, none⟩ u2).setCell ⟨g, 3, none⟩ u3).setCell ⟨g, 4, none⟩ u4).setCell ⟨g, 5, none⟩ u5).setCell ⟨g, 6, none⟩ u6).setCell ⟨g, 7, none⟩ u7).setCell ⟨g, 8, none⟩ u8).setCell ⟨g, 9, none⟩ u9).setCell ⟨g, 10, none⟩ u10) g t #[u0, u1, u2, u3, u4, u5, u6, u7, u8, u9, u10, x11] := by simpa using h9.set_ 10 u10
  have h11 : Blk ((((((((((((w.setCell ⟨g, 0, none⟩ u0).setCell ⟨g, 1, none⟩ u1).setCell ⟨g, 2, none⟩ u2).setCell ⟨g, 3, none⟩ u3).setCell ⟨g, 4, none⟩ u4).setCell ⟨g, 5, none⟩ u5).setCell ⟨g, 6, none⟩ u6).setCell ⟨g, 7, none⟩ u7).setCell ⟨g, 8, none⟩ u8).setCell ⟨g, 9, none⟩ u9).setCell ⟨g, 10, none⟩ u10).setCell ⟨g, 11, none⟩ u11) g t #[u0, u1, u2, u3, u4, u5, u6, u7, u8, u9, u10, u11] := by simpa using h10.set_ 11 u11
  exact h11
theorem Blk.far12 {w : World} {g g' : Nat} {t : TypeId} {cs : Array Value} {u0 u1 u2 u3 u4 u5 u6 u7 u8 u9 u10 u11 : Value} (h : Blk w g t cs) (hne : g ≠ g') : Blk ((((((((((((w.setCell ⟨g', 0, none⟩ u0).setCell ⟨g', 1, none⟩ u1).setCell ⟨g', 2, none⟩ u2).setCell ⟨g', 3, none⟩ u3).setCell ⟨g', 4, none⟩ u4).setCell ⟨g', 5, none⟩ u5).setCell ⟨g', 6, none⟩ u6).setCell ⟨g', 7, none⟩ u7).setCell ⟨g', 8, none⟩ u8).setCell ⟨g', 9, none⟩ u9).setCell ⟨g', 10, none⟩ u10).setCell ⟨g', 11, none⟩ u11) g t cs := ((((((((((((h.far (p := ⟨g', 0, none⟩) hne u0).far (p := ⟨g', 1, none⟩) hne u1).far (p := ⟨g', 2, none⟩) hne u2).far (p := ⟨g', 3, none⟩) hne u3).far (p := ⟨g', 4, none⟩) hne u4).far (p := ⟨g', 5, none⟩) hne u5).far (p := ⟨g', 6, none⟩) hne u6).far (p := ⟨g', 7, none⟩) hne u7).far (p := ⟨g', 8, none⟩) hne u8).far (p := ⟨g', 9, none⟩) hne u9).far (p := ⟨g', 10, none⟩) hne u10).far (p := ⟨g', 11, none⟩) hne u11)

end Go.Proofs.YtcpgkkphibhdfaaGreat
/-
  What the reference's Mul of layer 3 answers.
-/
namespace Go.Proofs.YtcpgkkphibhdfaaGreat
open Go.RowKit

/-- a product that may be may be -/
theorem addV_ok (zs : List Int) : okB (addV zs) = true := by
  unfold addV
  by_cases h : addOk zs = true
  · rw [if_pos h]
    unfold fitV
    by_cases h' : okB zs.sum = true
    · rw [if_pos h']; exact h'
    · rw [if_neg h']; decide
  · rw [if_neg h]; decide
theorem alV_ok (M : Nat → Int) (r : Nat) (V : Nat → Int) (l : Int) : okB (alV M r V l) = true := by
  unfold alV
  by_cases h : alF M r V = 0
  · rw [if_pos h]; exact addV_ok _
  · rw [if_neg h]; decide
theorem prodM_ok (A B : Nat → Int) : okM (prodM A B) = true := okM_of fun k _ => by
  unfold prodM gate
  by_cases h : prodE2 A B = 0
  · rw [if_pos h]; exact alV_ok _ _ _ _
  · rw [if_neg h]; decide
theorem rightM_at {Ms : List (Nat → Int)} {k : Nat} {M : Nat → Int} (hr : rightM Ms = true) (h : Ms[k]? = some M) : okM M = true := by
  unfold rightM at hr
  rw [List.all_eq_true] at hr
  exact hr M (List.mem_of_getElem? h)

theorem MRow.range {w : World} {a : Option Addr} {len k : Nat} {Ms : List (Nat → Int)} (h : MRow w a len Ms) (hk : k < len) :
    ∃ b off M, a = some ⟨b, off, none⟩ ∧ Ms[k]? = some M ∧ w.rangeAt b (off + k * 12) [.int .i64 (M 0), .int .i64 (M 1), .int .i64 (M 2), .int .i64 (M 3), .int .i64 (M 4), .int .i64 (M 5), .int .i64 (M 6), .int .i64 (M 7), .int .i64 (M 8), .int .i64 (M 9), .int .i64 (M 10), .int .i64 (M 11)] := by
  obtain ⟨h1, h2, h3⟩ := h
  rcases h3 with h3 | ⟨b, off, rfl, hc⟩
  · omega
  · have hk' : k < Ms.length := by omega
    have e : Ms.getD k zeroM = Ms[k] := by simp [List.getD, List.getElem?_eq_getElem hk']
    have c := hc k hk
    rw [e] at c
    refine ⟨b, off, _, rfl, List.getElem?_eq_getElem hk', fun j v hv => ?_⟩
    have hj : j < 12 := by have := (List.getElem?_eq_some_iff.1 hv).1; simpa using this
    rw [c j hj]
    rcases lt12 hj with rfl | rfl | rfl | rfl | rfl | rfl | rfl | rfl | rfl | rfl | rfl | rfl <;> simpa using hv
theorem range_keep {w w' : World} {b o : Nat} {cs : List Value} (h : w.rangeAt b o cs) (hb : Below w.heap.size w w') : w'.rangeAt b o cs := fun j v hv => cell_keep (h j v hv) hb
theorem range_drew {w : World} {b o : Nat} {cs : List Value} (h : w.rangeAt b o cs) : w.drew.rangeAt b o cs := fun j v hv => h j v hv

theorem range_far {w : World} {b o g i : Nat} {cs : List Value} {u : Value} (h : w.rangeAt b o cs) (hne : b ≠ g) : (w.setCell ⟨g, i, none⟩ u).rangeAt b o cs := fun j v hv => by
  rw [World.cell?_setCell_far _ _ _ _ (Ne.symm hne)]
  exact h j v hv
theorem range_far12 {w : World} {b o g : Nat} {cs : List Value} {u0 u1 u2 u3 u4 u5 u6 u7 u8 u9 u10 u11 : Value} (h : w.rangeAt b o cs) (hne : b ≠ g) : ((((((((((((w.setCell ⟨g, 0, none⟩ u0).setCell ⟨g, 1, none⟩ u1).setCell ⟨g, 2, none⟩ u2).setCell ⟨g, 3, none⟩ u3).setCell ⟨g, 4, none⟩ u4).setCell ⟨g, 5, none⟩ u5).setCell ⟨g, 6, none⟩ u6).setCell ⟨g, 7, none⟩ u7).setCell ⟨g, 8, none⟩ u8).setCell ⟨g, 9, none⟩ u9).setCell ⟨g, 10, none⟩ u10).setCell ⟨g, 11, none⟩ u11).rangeAt b o cs :=
  range_far (range_far (range_far (range_far (range_far (range_far (range_far (range_far (range_far (range_far (range_far (range_far h hne) hne) hne) hne) hne) hne) hne) hne) hne) hne) hne) hne

end Go.Proofs.YtcpgkkphibhdfaaGreat
/-
  '==' of two matrices that are the same; slices of two and of four matrices; the laws' own live question of layer 3 answers true; arguments that are matrices, opened to their numbers.
-/
namespace Go.Proofs.YtcpgkkphibhdfaaGreat
open Go.ChangeShapes Go.WideShapes Go.ChangeAt Go.RowKit Go.Deep

set_option maxHeartbeats 1000000 in
theorem eqMat (x0 x1 x2 x3 x4 x5 x6 x7 x8 x9 x10 x11 : Int) (w : World) : (Op.equalIn 10000 38 (.agg #[.int .i64 x0, .int .i64 x1, .int .i64 x2, .int .i64 x3, .int .i64 x4, .int .i64 x5, .int .i64 x6, .int .i64 x7, .int .i64 x8, .int .i64 x9, .int .i64 x10, .int .i64 x11]) (.agg #[.int .i64 x0, .int .i64 x1, .int .i64 x2, .int .i64 x3, .int .i64 x4, .int .i64 x5, .int .i64 x6, .int .i64 x7, .int .i64 x8, .int .i64 x9, .int .i64 x10, .int .i64 x11])).run Tryz.prog w = .ok true w := by
  have u3 := Tryz.underlying36
  have a3 := Tryz.isAgg36
  have z3 := Tryz.sizeOf36
  rw [show (10000 : Nat) = 9999 + 1 from rfl, Op.equalIn]
  simp only [Sem.run_bind, run_underlying Tryz.underlying38, Result.andThen_ok]
  simp only [Std.Legacy.Range.forIn_eq_forIn_range', Std.Legacy.Range.size, Nat.sub_zero, Nat.add_sub_cancel, Nat.div_one, List.range'_succ, List.range'_zero, List.forIn_cons, List.forIn_nil]
  go_simp

theorem mrow2 {w : World} {g : Nat} {t : TypeId} {A B : Nat → Int} (h : Blk w g t #[.int .i64 (A 0), .int .i64 (A 1), .int .i64 (A 2), .int .i64 (A 3), .int .i64 (A 4), .int .i64 (A 5), .int .i64 (A 6), .int .i64 (A 7), .int .i64 (A 8), .int .i64 (A 9), .int .i64 (A 10), .int .i64 (A 11), .int .i64 (B 0), .int .i64 (B 1), .int .i64 (B 2), .int .i64 (B 3), .int .i64 (B 4), .int .i64 (B 5), .int .i64 (B 6), .int .i64 (B 7), .int .i64 (B 8), .int .i64 (B 9), .int .i64 (B 10), .int .i64 (B 11)]) : MRow w (some ⟨g, 0, none⟩) 2 [A, B] := by
  refine ⟨rfl, by omega, Or.inr ⟨_, _, rfl, fun i hi j hj => ?_⟩⟩
  obtain rfl | rfl : i = 0 ∨ i = 1 := by omega
  · rcases lt12 hj with rfl | rfl | rfl | rfl | rfl | rfl | rfl | rfl | rfl | rfl | rfl | rfl
    · exact h.cell 0
    · exact h.cell 1
    · exact h.cell 2
    · exact h.cell 3
    · exact h.cell 4
    · exact h.cell 5
    · exact h.cell 6
    · exact h.cell 7
    · exact h.cell 8
    · exact h.cell 9
    · exact h.cell 10
    · exact h.cell 11
  · rcases lt12 hj with rfl | rfl | rfl | rfl | rfl | rfl | rfl | rfl | rfl | rfl | rfl | rfl
    · exact h.cell 12
    · exact h.cell 13
    · exact h.cell 14
    · exact h.cell 15
    · exact h.cell 16
    · exact h.cell 17
    · exact h.cell 18
    · exact h.cell 19
    · exact h.cell 20
    · exact h.cell 21
    · exact h.cell 22
    · exact h.cell 23
theorem mrow4 {w : World} {g : Nat} {t : TypeId} {A B C D : Nat → Int} (h : Blk w g t #[.int .i64 (A 0), .int .i64 (A 1), .int .i64 (A 2), .int .i64 (A 3), .int .i64 (A 4), .int .i64 (A 5), .int .i64 (A 6), .int .i64 (A 7), .int .i64 (A 8), .int .i64 (A 9), .int .i64 (A 10), .int .i64 (A 11), .int .i64 (B 0), .int .i64 (B 1), .int .i64 (B 2), .int .i64 (B 3), .int .i64 (B 4), .int .i64 (B 5), .int .i64 (B 6), .int .i64 (B 7), .int .i64 (B 8), .int .i64 (B 9), .int .i64 (B 10), .int .i64 (B 11), .int .i64 (C 0), .int .i64 (C 1), .int .i64 (C 2), .int .i64 (C 3), .int .i64 (C 4), .int .i64 (C 5), .int .i64 (C 6), .int .i64 (C 7), .int .i64 (C 8), .int .i64 (C 9), .int .i64 (C 10), .int .i64 (C 11), .int .i64 (D 0), .int .i64 (D 1), .int .i64 (D 2), .int .i64 (D 3), .int .i64 (D 4), .int .i64 (D 5), .int .i64 (D 6), .int .i64 (D 7), .int .i64 (D 8), .int .i64 (D 9), .int .i64 (D 10), .int .i64 (D 11)]) : MRow w (some ⟨g, 0, none⟩) 4 [A, B, C, D] := by
  refine ⟨rfl, by omega, Or.inr ⟨_, _, rfl, fun i hi j hj => ?_⟩⟩
  obtain rfl | rfl | rfl | rfl : i = 0 ∨ i = 1 ∨ i = 2 ∨ i = 3 := by omega
  · rcases lt12 hj with rfl | rfl | rfl | rfl | rfl | rfl | rfl | rfl | rfl | rfl | rfl | rfl
    · exact h.cell 0
    · exact h.cell 1
    · exact h.cell 2
    · exact h.cell 3
    · exact h.cell 4
    · exact h.cell 5
    · exact h.cell 6
    · exact h.cell 7
    · exact h.cell 8
    · exact h.cell 9
    · exact h.cell 10
    · exact h.cell 11
  · rcases lt12 hj with rfl | rfl | rfl | rfl | rfl | rfl | rfl | rfl | rfl | rfl | rfl | rfl
    · exact h.cell 12
    · exact h.cell 13
    · exact h.cell 14
    · exact h.cell 15
    · exact h.cell 16
    · exact h.cell 17
    · exact h.cell 18
    · exact h.cell 19
    · exact h.cell 20
    · exact h.cell 21
    · exact h.cell 22
    · exact h.cell 23
  · rcases lt12 hj with rfl | rfl | rfl | rfl | rfl | rfl | rfl | rfl | rfl | rfl | rfl | rfl
    · exact h.cell 24
    · exact h.cell 25
    · exact h.cell 26
    · exact h.cell 27
    · exact h.cell 28
    · exact h.cell 29
    · exact h.cell 30
    · exact h.cell 31
    · exact h.cell 32
    · exact h.cell 33
    · exact h.cell 34
    · exact h.cell 35
  · rcases lt12 hj with rfl | rfl | rfl | rfl | rfl | rfl | rfl | rfl | rfl | rfl | rfl | rfl
    · exact h.cell 36
    · exact h.cell 37
    · exact h.cell 38
    · exact h.cell 39
    · exact h.cell 40
    · exact h.cell 41
    · exact h.cell 42
    · exact h.cell 43
    · exact h.cell 44
    · exact h.cell 45
    · exact h.cell 46
    · exact h.cell 47

def aMove : Nat → Int := fun k => [65536, 0, 0, 65536, 0, 65536, 0, 0, 0, 0, 65536, 5].getD k 0
def aTurn : Nat → Int := fun k => [0, -65536, 0, 0, 65536, 0, 0, 0, 0, 0, 65536, 0].getD k 0
def aProd : Nat → Int := fun k => [0, -65536, 0, 65536, 65536, 0, 0, 0, 0, 0, 65536, 5].getD k 0
theorem aMul : (mulMs [aMove, aTurn]).2 = 0 ∧ ∀ k, k < 12 → (mulMs [aMove, aTurn]).1 k = aProd k := by decide
theorem aApp : appE aProd (v3 131072 196608 7) = 0 ∧ appV aProd (v3 131072 196608 7) 0 = -131072 ∧ appV aProd (v3 131072 196608 7) 1 = 131072 ∧ appV aProd (v3 131072 196608 7) 2 = 12 := by decide
theorem aalive_right {w : World} {g cap : Nat} {t : TypeId} (h : Blk w g t #[.int .i64 0, .int .i64 (-65536), .int .i64 0, .int .i64 65536, .int .i64 65536, .int .i64 0, .int .i64 0, .int .i64 0, .int .i64 0, .int .i64 0, .int .i64 65536, .int .i64 5]) : Calls Tryz.prog 101 #[.slice (some ⟨g, 0, none⟩) 1 cap] w fun e w' => e = .returned (.bool true) ∧ Below w.heap.size w w' :=
  mright1 (M := aProd) (by decide) h

theorem aidx5 (w : World) : (Instr.index 38 (.agg #[.int .i64 65536, .int .i64 0, .int .i64 0, .int .i64 0, .int .i64 0, .int .i64 65536, .int .i64 0, .int .i64 0, .int .i64 0, .int .i64 0, .int .i64 65536, .int .i64 0]) (.int .i64 5)).run Tryz.prog w = .ok (.int .i64 65536) w := by kernel_rfl

end Go.Proofs.YtcpgkkphibhdfaaGreat
/-
  Arguments that are matrices, opened to their numbers.
-/
namespace Go.Proofs.YtcpgkkphibhdfaaGreat
open Go.ChangeShapes Go.WideShapes Go.ChangeAt Go.RowKit Go.Deep

section
variable {H : Type} {enc : TypeId × Value → H} {w : World} {base : Nat} {spare : Nat → Bool} {held : Bool}

theorem take1_at {cs : List Value} {i : Nat} {v : Value} (h : (cs.drop i).take 1 = [v]) : cs[i]? = some v := by
  have e := congrArg (fun l => l[0]?) h
  simpa using e

/-- cells that read as an array of numbers are numbers -/
theorem open_nums {t e : TypeId} {k : IntKind} {n fuel : Nat} {cs : List Value} {x : DataW H × List MemPlace} (ht : Tryz.prog.underlying t = some (.array n e)) (he : Tryz.prog.underlying e = some (.int k)) (hc : Tryz.prog.cellsOf e = 1)
    (h : DataW.trod enc Tryz.prog w base spare held fuel t cs = some x) : ∃ M : Nat → Int, ∀ i, i < n → cs[i]? = some (.int k (M i)) ∧ (Lit.int k (M i)).wf = true := by
  obtain ⟨xs, m, _, _, _, hxl, hx⟩ := DataW.trod_array ht h
  rw [hc] at hx
  refine choose_lt (α := Int) (n := n) (p := fun i v => cs[i]? = some (.int k v) ∧ (Lit.int k v).wf = true) (fun i hi => ?_)
  have e0 : xs[i]? = some (xs[i]'(by omega)) := List.getElem?_eq_getElem (by omega)
  obtain ⟨v, ev, _, wv⟩ := DataW.trod_int he ((hx i hi).trans e0)
  rw [Nat.mul_one] at ev
  exact ⟨v, take1_at ev, wv⟩

theorem list12 {cs : List Value} {M : Nat → Int} {k : IntKind} (hl : cs.length = 12) (h : ∀ i, i < 12 → cs[i]? = some (.int k (M i))) : cs = [.int k (M 0), .int k (M 1), .int k (M 2), .int k (M 3), .int k (M 4), .int k (M 5), .int k (M 6), .int k (M 7), .int k (M 8), .int k (M 9), .int k (M 10), .int k (M 11)] := by
  match cs, hl with
  | [c0, c1, c2, c3, c4, c5, c6, c7, c8, c9, c10, c11], _ =>
    have h0 := h 0 (by omega)
    have h1 := h 1 (by omega)
    have h2 := h 2 (by omega)
    have h3 := h 3 (by omega)
    have h4 := h 4 (by omega)
    have h5 := h 5 (by omega)
    have h6 := h 6 (by omega)
    have h7 := h 7 (by omega)
    have h8 := h 8 (by omega)
    have h9 := h 9 (by omega)
    have h10 := h 10 (by omega)
    have h11 := h 11 (by omega)
    simp at h0 h1 h2 h3 h4 h5 h6 h7 h8 h9 h10 h11
    rw [h0, h1, h2, h3, h4, h5, h6, h7, h8, h9, h10, h11]
theorem list3 {cs : List Value} {M : Nat → Int} {k : IntKind} (hl : cs.length = 3) (h : ∀ i, i < 3 → cs[i]? = some (.int k (M i))) : cs = [.int k (M 0), .int k (M 1), .int k (M 2)] := by
  match cs, hl with
  | [c0, c1, c2], _ =>
    have h0 := h 0 (by omega)
    have h1 := h 1 (by omega)
    have h2 := h 2 (by omega)
    simp at h0 h1 h2
    rw [h0, h1, h2]

set_option maxRecDepth 100000 in
theorem open_mat {r : Reach} {b0 : Nat} {v : Value} {d : DataW H} {p : List MemPlace} (hv : Value.okWide Tryz.prog w r b0 38 v) (h : DataW.Trod enc Tryz.prog w base spare held 38 v d p) : ∃ M : Nat → Int, v = .agg #[.int .i64 (M 0), .int .i64 (M 1), .int .i64 (M 2), .int .i64 (M 3), .int .i64 (M 4), .int .i64 (M 5), .int .i64 (M 6), .int .i64 (M 7), .int .i64 (M 8), .int .i64 (M 9), .int .i64 (M 10), .int .i64 (M 11)] := by
  obtain ⟨cs, rfl, hs⟩ := okWide_arr Tryz.underlying38 hv
  rw [show Tryz.prog.cellsOf 38 = 12 by kernel_rfl] at hs
  obtain ⟨fuel, hf⟩ := h
  obtain ⟨M, hM⟩ := open_nums Tryz.underlying38 Tryz.underlying36 (by kernel_rfl) hf
  obtain ⟨l⟩ := cs
  have hl : l.length = 12 := by simpa using hs
  have e := list12 (M := M) (k := .i64) hl (fun i hi => by simpa [Value.cells] using (hM i hi).1)
  exact ⟨M, by rw [e]⟩
set_option maxRecDepth 100000 in
theorem open_vec3 {r : Reach} {b0 : Nat} {v : Value} {d : DataW H} {p : List MemPlace} (hv : Value.okWide Tryz.prog w r b0 40 v) (h : DataW.Trod enc Tryz.prog w base spare held 40 v d p) : ∃ V : Nat → Int, v = .agg #[.int .i64 (V 0), .int .i64 (V 1), .int .i64 (V 2)] := by
  obtain ⟨cs, rfl, hs⟩ := okWide_arr Tryz.underlying40 hv
  rw [show Tryz.prog.cellsOf 40 = 3 by kernel_rfl] at hs
  obtain ⟨fuel, hf⟩ := h
  obtain ⟨M, hM⟩ := open_nums Tryz.underlying40 Tryz.underlying36 (by kernel_rfl) hf
  obtain ⟨l⟩ := cs
  have hl : l.length = 3 := by simpa using hs
  have e := list3 (M := M) (k := .i64) hl (fun i hi => by simpa [Value.cells] using (hM i hi).1)
  exact ⟨M, by rw [e]⟩

/-- a slice of matrices that came in -/
theorem open_mats {fuel : Nat} {a : Option Addr} {len cap : Nat} {x : DataW H × List MemPlace} (h : DataW.trod enc Tryz.prog w base (fun _ => true) held fuel 137 [.slice a len cap] = some x) :
    ∃ Ms, MRow w a len Ms ∧ len ≤ cap ∧ cap ≤ 9223372036854775807 := by
  rcases open_slice Tryz.underlying137 h with ⟨hcs, _⟩ | ⟨ad, l, c, m, n, D, Pl, hcs, _, hlc, hm, hmm, _, hi⟩
  · simp at hcs
    obtain ⟨rfl, rfl, rfl⟩ := hcs
    exact ⟨[], ⟨rfl, by omega, .inl rfl⟩, by omega, by omega⟩
  · simp at hcs
    obtain ⟨rfl, rfl, rfl⟩ := hcs
    unfold maxLen at hm
    have hC : Tryz.prog.cellsOf 38 = 12 := by kernel_rfl
    rw [hC] at hi
    simp only [if_true] at hmm
    subst hmm
    obtain ⟨V, hV⟩ := choose_lt (α := Nat → Int) (n := len) (p := fun i M => ∀ j, j < 12 → w.cell? ((ad.add (i * 12)).add j) = some (.int .i64 (M j))) (fun i hil => by
      obtain ⟨cs', hc, ht⟩ := hi i (by omega)
      obtain ⟨_, hlen, hat⟩ := World.cells?_some hc
      obtain ⟨M, hM⟩ := open_nums Tryz.underlying38 Tryz.underlying36 (by kernel_rfl) ht
      exact ⟨M, fun j hj => by rw [hat j (by omega)]; exact (hM j hj).1⟩)
    refine ⟨(List.range len).map V, ⟨by simp, by omega, ?_⟩, hlc, by omega⟩
    by_cases h0 : len = 0
    · exact .inl h0
    · obtain ⟨b, off, spot⟩ := ad
      have hspot : spot = none := by simpa [Addr.add] using World.cell?_spot (hV 0 (by omega) 0 (by omega))
      subst hspot
      refine .inr ⟨b, off, rfl, fun i hil j hj => ?_⟩
      have e : ((List.range len).map V).getD i zeroM = V i := by simp [List.getD, hil]
      rw [e]
      have := hV i hil j hj
      simpa only [add_plain] using this
end
end Go.Proofs.YtcpgkkphibhdfaaGreat
