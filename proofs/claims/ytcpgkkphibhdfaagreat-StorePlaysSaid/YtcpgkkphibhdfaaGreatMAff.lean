/-
  14 texts in one file, each with its own heading.
-/
import Derived.Test.YtcpgkkphibhdfaaGreatMVec
import Derived.WalkKit
import Derived.ProofKit
import Derived.OpenShut
import Derived.Deep.Slices
import Derived.Laws.IdiomArrays
/-
  Matrices as functions of the place: blocks, rows and slices of them; where a row's number stands; whether matrices may be.
-/
namespace Go.Proofs.YtcpgkkphibhdfaaGreat
open Go.RowKit

theorem lt12 {k : Nat} (hk : k < 12) : k = 0 ∨ k = 1 ∨ k = 2 ∨ k = 3 ∨ k = 4 ∨ k = 5 ∨ k = 6 ∨ k = 7 ∨ k = 8 ∨ k = 9 ∨ k = 10 ∨ k = 11 := by omega
theorem Blk.at12 {w : World} {g : Nat} {t : TypeId} {M : Nat → Int} (h : Blk w g t #[.int .i64 (M 0), .int .i64 (M 1), .int .i64 (M 2), .int .i64 (M 3), .int .i64 (M 4), .int .i64 (M 5), .int .i64 (M 6), .int .i64 (M 7), .int .i64 (M 8), .int .i64 (M 9), .int .i64 (M 10), .int .i64 (M 11)]) {k : Nat} (hk : k < 12) : w.cell? ⟨g, k, none⟩ = some (.int .i64 (M k)) := by
  rcases lt12 hk with rfl | rfl | rfl | rfl | rfl | rfl | rfl | rfl | rfl | rfl | rfl | rfl
  · exact h.cell 0
  · exact h.cell 1
  · exact h.cell 2
  · exact h.cell 3
  · exact h.cell 4
  · exact h.cell 5
  · exact h.cell 6
  · exact h.cell 7
  · exact h.cell 8
  · exact h.cell 9
  · exact h.cell 10
  · exact h.cell 11
def zeroM : Nat → Int := fun _ => 0
def okM (M : Nat → Int) : Bool := rightB [M 0, M 1, M 2, M 3, M 4, M 5, M 6, M 7, M 8, M 9, M 10, M 11]
def rightM (Ms : List (Nat → Int)) : Bool := Ms.all okM

theorem row12 {w : World} {g : Nat} {t : TypeId} {M : Nat → Int} (h : Blk w g t #[.int .i64 (M 0), .int .i64 (M 1), .int .i64 (M 2), .int .i64 (M 3), .int .i64 (M 4), .int .i64 (M 5), .int .i64 (M 6), .int .i64 (M 7), .int .i64 (M 8), .int .i64 (M 9), .int .i64 (M 10), .int .i64 (M 11)]) : Row w (some ⟨g, 0, none⟩) 12 [M 0, M 1, M 2, M 3, M 4, M 5, M 6, M 7, M 8, M 9, M 10, M 11] := by
  refine ⟨rfl, by omega, Or.inr ⟨_, _, rfl, fun k hk => ?_⟩⟩
  rcases lt12 hk with rfl | rfl | rfl | rfl | rfl | rfl | rfl | rfl | rfl | rfl | rfl | rfl
  · exact h.cell 0
  · exact h.cell 1
  · exact h.cell 2
  · exact h.cell 3
  · exact h.cell 4
  · exact h.cell 5
  · exact h.cell 6
  · exact h.cell 7
  · exact h.cell 8
  · exact h.cell 9
  · exact h.cell 10
  · exact h.cell 11
/-- a slice of matrices whose elements are 'Ms' -/
def MRow (w : World) (a : Option Addr) (len : Nat) (Ms : List (Nat → Int)) : Prop :=
  Ms.length = len ∧ len ≤ 9223372036854775807 ∧ (len = 0 ∨ ∃ b off, a = some ⟨b, off, none⟩ ∧ ∀ i, i < len → ∀ j, j < 12 → w.cell? ⟨b, off + i * 12 + j, none⟩ = some (.int .i64 (Ms.getD i zeroM j)))
theorem mrow_keep {w w' : World} {a : Option Addr} {len : Nat} {Ms : List (Nat → Int)} (h : MRow w a len Ms) (hb : Below w.heap.size w w') : MRow w' a len Ms := by
  obtain ⟨h1, h2, h3⟩ := h
  refine ⟨h1, h2, ?_⟩
  rcases h3 with h3 | ⟨b, off, e, hc⟩
  · exact Or.inl h3
  · exact Or.inr ⟨b, off, e, fun i hi j hj => cell_keep (hc i hi j hj) hb⟩
theorem MRow.at_ {w : World} {a : Option Addr} {len k : Nat} {Ms : List (Nat → Int)} (h : MRow w a len Ms) (hk : k < len) :
    ∃ b off M, a = some ⟨b, off, none⟩ ∧ Ms[k]? = some M ∧ w.cell? ⟨b, off + k * 12, none⟩ = some (.int .i64 (M 0)) ∧ w.cell? ⟨b, off + k * 12 + 1, none⟩ = some (.int .i64 (M 1)) ∧ w.cell? ⟨b, off + k * 12 + 2, none⟩ = some (.int .i64 (M 2)) ∧ w.cell? ⟨b, off + k * 12 + 3, none⟩ = some (.int .i64 (M 3)) ∧ w.cell? ⟨b, off + k * 12 + 4, none⟩ = some (.int .i64 (M 4)) ∧ w.cell? ⟨b, off + k * 12 + 5, none⟩ = some (.int .i64 (M 5)) ∧ w.cell? ⟨b, off + k * 12 + 6, none⟩ = some (.int .i64 (M 6)) ∧ w.cell? ⟨b, off + k * 12 + 7, none⟩ = some (.int .i64 (M 7)) ∧ w.cell? ⟨b, off + k * 12 + 8, none⟩ = some (.int .i64 (M 8)) ∧ w.cell? ⟨b, off + k * 12 + 9, none⟩ = some (.int .i64 (M 9)) ∧ w.cell? ⟨b, off + k * 12 + 10, none⟩ = some (.int .i64 (M 10)) ∧ w.cell? ⟨b, off + k * 12 + 11, none⟩ = some (.int .i64 (M 11)) := by
  obtain ⟨h1, h2, h3⟩ := h
  rcases h3 with h3 | ⟨b, off, rfl, hc⟩
  · omega
  · have hk' : k < Ms.length := by omega
    have e : Ms.getD k zeroM = Ms[k] := by simp [List.getD, List.getElem?_eq_getElem hk']
    have c := hc k hk
    rw [e] at c
    exact ⟨b, off, _, rfl, List.getElem?_eq_getElem hk', c 0 (by omega), c 1 (by omega), c 2 (by omega), c 3 (by omega), c 4 (by omega), c 5 (by omega), c 6 (by omega), c 7 (by omega), c 8 (by omega), c 9 (by omega), c 10 (by omega), c 11 (by omega)⟩
theorem rightM_succ {Ms : List (Nat → Int)} {k : Nat} {M : Nat → Int} (h : Ms[k]? = some M) (hr : rightM (Ms.take k) = true) (ho : okM M = true) : rightM (Ms.take (k + 1)) = true := by
  unfold rightM at hr ⊢
  rw [List.take_add_one, List.all_append, hr, h]
  simpa using ho
theorem rightM_bad {Ms : List (Nat → Int)} {k : Nat} {M : Nat → Int} (h : Ms[k]? = some M) (ho : okM M = false) : rightM Ms = false := by
  unfold rightM
  rw [List.all_eq_false]
  exact ⟨M, List.mem_of_getElem? h, by simpa using ho⟩
theorem rightM_all {Ms : List (Nat → Int)} {k : Nat} (hr : rightM (Ms.take k) = true) (h : Ms.length ≤ k) : rightM Ms = true := by
  rwa [List.take_of_length_le h] at hr

theorem right12_yes {w : World} {g cap : Nat} {t : TypeId} {M : Nat → Int} (ho : okM M = true) (h : Blk w g t #[.int .i64 (M 0), .int .i64 (M 1), .int .i64 (M 2), .int .i64 (M 3), .int .i64 (M 4), .int .i64 (M 5), .int .i64 (M 6), .int .i64 (M 7), .int .i64 (M 8), .int .i64 (M 9), .int .i64 (M 10), .int .i64 (M 11)]) :
    Calls Tryz.prog 134 #[.slice (some ⟨g, 0, none⟩) 12 cap] w fun e w' => e = .returned (.bool true) ∧ w = w' :=
  (right_any _ 12 cap [M 0, M 1, M 2, M 3, M 4, M 5, M 6, M 7, M 8, M 9, M 10, M 11] w (row12 h)).mono fun _ _ ⟨he, hw⟩ => ⟨by rw [he, show rightB [M 0, M 1, M 2, M 3, M 4, M 5, M 6, M 7, M 8, M 9, M 10, M 11] = true from ho], hw⟩
theorem right12_no {w : World} {g cap : Nat} {t : TypeId} {M : Nat → Int} (ho : okM M = false) (h : Blk w g t #[.int .i64 (M 0), .int .i64 (M 1), .int .i64 (M 2), .int .i64 (M 3), .int .i64 (M 4), .int .i64 (M 5), .int .i64 (M 6), .int .i64 (M 7), .int .i64 (M 8), .int .i64 (M 9), .int .i64 (M 10), .int .i64 (M 11)]) :
    Calls Tryz.prog 134 #[.slice (some ⟨g, 0, none⟩) 12 cap] w fun e w' => e = .returned (.bool false) ∧ w = w' :=
  (right_any _ 12 cap [M 0, M 1, M 2, M 3, M 4, M 5, M 6, M 7, M 8, M 9, M 10, M 11] w (row12 h)).mono fun _ _ ⟨he, hw⟩ => ⟨by rw [he, show rightB [M 0, M 1, M 2, M 3, M 4, M 5, M 6, M 7, M 8, M 9, M 10, M 11] = false from ho], hw⟩

set_option maxHeartbeats 1000000 in
theorem mright_any (a : Option Addr) (len cap : Nat) (Ms : List (Nat → Int)) (w : World) (row : MRow w a len Ms) :
    Calls Tryz.prog 101 #[.slice a len cap] w fun e w' => e = .returned (.bool (rightM Ms)) ∧ Below w.heap.size w w' := by
  have HL := Lib.hid row.1
  have hbig := row.2.1
  have HRow := Lib.hid row
  clear row
  go_enter Tryz.func101, Tryz.ntmps101
  go_wp2
  go_loopw [4, 7] (fun _ i wr => ∃ k : Nat, k ≤ len ∧ i = .int .i64 k ∧ rightM (Ms.take k) = true ∧ Below w.heap.size w wr) (fun _ i _ => len - (intOf i).toNat)
  case atStart => exact ⟨0, Nat.zero_le _, rfl, rfl, Below.refl _ _⟩
  case round =>
    obtain ⟨k, hk, rfl, hr, hb⟩ := hrel
    have HR := Lib.hid hr
    have HB := Lib.hid hb
    clear hr hb
    by_cases hlt : k < len
    · obtain ⟨b, off, M, rfl, hv, c0, c1, c2, c3, c4, c5, c6, c7, c8, c9, c10, c11⟩ := (mrow_keep HRow.out HB.out).at_ hlt
      have HV := Lib.hid hv
      clear hv
      by_cases ho : okM M = true
      · have HO := Lib.hid ho
        clear ho
        go_wp2_with (go_at_call 134; refine (right12_yes HO.out (Blk.new _ _ _)).mono ?_; rintro e w' ⟨rfl, rfl⟩)
        go_roundw
        case rel => exact ⟨k + 1, by omega, by go_num, rightM_succ HV.out HR.out HO.out, balloc HB.out _⟩
        case measure => simp [intOf]; omega
      · have ho' : okM M = false := by simpa using ho
        have HO := Lib.hid ho'
        clear ho ho'
        go_wp2_with (go_at_call 134; refine (right12_no HO.out (Blk.new _ _ _)).mono ?_; rintro e w' ⟨rfl, rfl⟩)
        go_ret
        exact ⟨ret_bool (rightM_bad HV.out HO.out).symm, balloc HB.out _⟩
    · go_wp2
      go_ret
      exact ⟨ret_bool (rightM_all HR.out (by rw [HL.out]; omega)).symm, HB.out⟩

theorem rright12 {w : World} {g cap : Nat} {t : TypeId} {M : Nat → Int} (h : Blk w g t #[.int .i64 (M 0), .int .i64 (M 1), .int .i64 (M 2), .int .i64 (M 3), .int .i64 (M 4), .int .i64 (M 5), .int .i64 (M 6), .int .i64 (M 7), .int .i64 (M 8), .int .i64 (M 9), .int .i64 (M 10), .int .i64 (M 11)]) :
    Calls Tryz.prog 132 #[.slice (some ⟨g, 0, none⟩) 12 cap] w fun e w' => e = .returned (.bool (okM M)) ∧ w = w' :=
  rright_any _ 12 cap [M 0, M 1, M 2, M 3, M 4, M 5, M 6, M 7, M 8, M 9, M 10, M 11] w (row12 h)

set_option maxHeartbeats 400000 in
theorem rmright_any (M : Nat → Int) (w : World) :
    Calls Tryz.prog 97 #[.agg #[.int .i64 (M 0), .int .i64 (M 1), .int .i64 (M 2), .int .i64 (M 3), .int .i64 (M 4), .int .i64 (M 5), .int .i64 (M 6), .int .i64 (M 7), .int .i64 (M 8), .int .i64 (M 9), .int .i64 (M 10), .int .i64 (M 11)]] w fun e w' => e = .returned (.bool (okM M)) ∧ Below w.heap.size w w' := by
  go_enter Tryz.func97, Tryz.ntmps97
  go_wp2_with (go_at_call 132; refine (rright12 (M := M) (Blk.new _ _ _)).mono ?_; rintro e w' ⟨rfl, rfl⟩)
  go_ret
  exact ⟨rfl, alloc_below _ _⟩
end Go.Proofs.YtcpgkkphibhdfaaGreat
/-
  What package affine's Scale, Same, Move and Turn answer, and the reference's.
-/
namespace Go.Proofs.YtcpgkkphibhdfaaGreat
open Go.RowKit

/-- what is known of a world, in the place of the world -/
theorem fin {Q : World → Prop} {W : World} (P : World → Prop) (h : P W) (k : ∀ W', P W' → Q W') : Q W := k W h
theorem bdrewn {n : Nat} {w a : World} (h : Below n w a) : Below n w a.drew := ⟨h.os, h.tape, h.output, h.size, h.block⟩

end Go.Proofs.YtcpgkkphibhdfaaGreat
/-
  What package affine's Move answers, and the reference's.
-/
namespace Go.Proofs.YtcpgkkphibhdfaaGreat
open Go.RowKit

end Go.Proofs.YtcpgkkphibhdfaaGreat
/-
  What package affine's Turn answers, and the reference's.
-/
namespace Go.Proofs.YtcpgkkphibhdfaaGreat
open Go.RowKit

end Go.Proofs.YtcpgkkphibhdfaaGreat
/-
  What package affine's along and column answer: a row's products with a vector, and one number more, added; a column.
-/
namespace Go.Proofs.YtcpgkkphibhdfaaGreat
open Go.RowKit

end Go.Proofs.YtcpgkkphibhdfaaGreat
/-
  What the reference's sum of layer 3 answers.
-/
namespace Go.Proofs.YtcpgkkphibhdfaaGreat
open Go.RowKit

end Go.Proofs.YtcpgkkphibhdfaaGreat
/-
  What package affine's pair answers: the product of two matrices.
-/
namespace Go.Proofs.YtcpgkkphibhdfaaGreat
open Go.RowKit

theorem sizeM (A : Nat → Int) : (Tryz.prog.info? 38).map (·.size) = some ([.int .i64 (A 0), .int .i64 (A 1), .int .i64 (A 2), .int .i64 (A 3), .int .i64 (A 4), .int .i64 (A 5), .int .i64 (A 6), .int .i64 (A 7), .int .i64 (A 8), .int .i64 (A 9), .int .i64 (A 10), .int .i64 (A 11)] : List Value).length := by kernel_rfl

end Go.Proofs.YtcpgkkphibhdfaaGreat
/-
  What the reference's Two of layer 3 answers, of two matrices that may be.
-/
namespace Go.Proofs.YtcpgkkphibhdfaaGreat
open Go.RowKit

def v3 (x y z : Int) (j : Nat) : Int := [x, y, z].getD j 0
end Go.Proofs.YtcpgkkphibhdfaaGreat
/-
  What package affine's Apply answers, and the reference's.
-/
namespace Go.Proofs.YtcpgkkphibhdfaaGreat
open Go.RowKit

theorem mrow1 {w : World} {g : Nat} {t : TypeId} {M : Nat → Int} (h : Blk w g t #[.int .i64 (M 0), .int .i64 (M 1), .int .i64 (M 2), .int .i64 (M 3), .int .i64 (M 4), .int .i64 (M 5), .int .i64 (M 6), .int .i64 (M 7), .int .i64 (M 8), .int .i64 (M 9), .int .i64 (M 10), .int .i64 (M 11)]) : MRow w (some ⟨g, 0, none⟩) 1 [M] := by
  refine ⟨rfl, by omega, Or.inr ⟨_, _, rfl, fun i hi j hj => ?_⟩⟩
  obtain rfl : i = 0 := by omega
  have := h.at12 hj
  simpa using this
theorem mright1 {M : Nat → Int} {b : Bool} (ho : okM M = b) {w : World} {g cap : Nat} {t : TypeId} (h : Blk w g t #[.int .i64 (M 0), .int .i64 (M 1), .int .i64 (M 2), .int .i64 (M 3), .int .i64 (M 4), .int .i64 (M 5), .int .i64 (M 6), .int .i64 (M 7), .int .i64 (M 8), .int .i64 (M 9), .int .i64 (M 10), .int .i64 (M 11)]) :
    Calls Tryz.prog 101 #[.slice (some ⟨g, 0, none⟩) 1 cap] w fun e w' => e = .returned (.bool b) ∧ Below w.heap.size w w' :=
  (mright_any _ 1 cap [M] w (mrow1 h)).mono fun _ _ ⟨he, hw⟩ => ⟨by rw [he]; unfold rightM; simp [ho], hw⟩
end Go.Proofs.YtcpgkkphibhdfaaGreat
/-
  What the reference's Apply of layer 3 answers.
-/
namespace Go.Proofs.YtcpgkkphibhdfaaGreat
open Go.RowKit

end Go.Proofs.YtcpgkkphibhdfaaGreat
/-
  What package affine's Mul answers: the product of a list of matrices.
-/
namespace Go.Proofs.YtcpgkkphibhdfaaGreat
open Go.RowKit

end Go.Proofs.YtcpgkkphibhdfaaGreat
/-
  What the reference's Mul of layer 3 answers.
-/
namespace Go.Proofs.YtcpgkkphibhdfaaGreat
open Go.RowKit

theorem MRow.range {w : World} {a : Option Addr} {len k : Nat} {Ms : List (Nat → Int)} (h : MRow w a len Ms) (hk : k < len) :
    ∃ b off M, a = some ⟨b, off, none⟩ ∧ Ms[k]? = some M ∧ w.rangeAt b (off + k * 12) [.int .i64 (M 0), .int .i64 (M 1), .int .i64 (M 2), .int .i64 (M 3), .int .i64 (M 4), .int .i64 (M 5), .int .i64 (M 6), .int .i64 (M 7), .int .i64 (M 8), .int .i64 (M 9), .int .i64 (M 10), .int .i64 (M 11)] := by
  obtain ⟨h1, h2, h3⟩ := h
  rcases h3 with h3 | ⟨b, off, rfl, hc⟩
  · omega
  · have hk' : k < Ms.length := by omega
    have e : Ms.getD k zeroM = Ms[k] := by simp [List.getD, List.getElem?_eq_getElem hk']
    have c := hc k hk
    rw [e] at c
    refine ⟨b, off, _, rfl, List.getElem?_eq_getElem hk', fun j v hv => ?_⟩
    have hj : j < 12 := by have := (List.getElem?_eq_some_iff.1 hv).1; simpa using this
    rw [c j hj]
    rcases lt12 hj with rfl | rfl | rfl | rfl | rfl | rfl | rfl | rfl | rfl | rfl | rfl | rfl <;> simpa using hv
end Go.Proofs.YtcpgkkphibhdfaaGreat
/-
  '==' of two matrices that are the same; slices of two and of four matrices; the laws' own live question of layer 3 answers true; arguments that are matrices, opened to their numbers.
-/
namespace Go.Proofs.YtcpgkkphibhdfaaGreat
open Go.ChangeShapes Go.WideShapes Go.ChangeAt Go.RowKit Go.Deep

end Go.Proofs.YtcpgkkphibhdfaaGreat
/-
  Arguments that are matrices, opened to their numbers.
-/
namespace Go.Proofs.YtcpgkkphibhdfaaGreat
open Go.ChangeShapes Go.WideShapes Go.ChangeAt Go.RowKit Go.Deep

section
variable {H : Type} {enc : TypeId × Value → H} {w : World} {base : Nat} {spare : Nat → Bool} {held : Bool}

theorem take1_at {cs : List Value} {i : Nat} {v : Value} (h : (cs.drop i).take 1 = [v]) : cs[i]? = some v := by
  have e := congrArg (fun l => l[0]?) h
  simpa using e

/-- cells that read as an array of numbers are numbers -/
theorem open_nums {t e : TypeId} {k : IntKind} {n fuel : Nat} {cs : List Value} {x : DataW H × List MemPlace} (ht : Tryz.prog.underlying t = some (.array n e)) (he : Tryz.prog.underlying e = some (.int k)) (hc : Tryz.prog.cellsOf e = 1)
    (h : DataW.trod enc Tryz.prog w base spare held fuel t cs = some x) : ∃ M : Nat → Int, ∀ i, i < n → cs[i]? = some (.int k (M i)) ∧ (Lit.int k (M i)).wf = true := by
  obtain ⟨xs, m, _, _, _, hxl, hx⟩ := DataW.trod_array ht h
  rw [hc] at hx
  refine choose_lt (α := Int) (n := n) (p := fun i v => cs[i]? = some (.int k v) ∧ (Lit.int k v).wf = true) (fun i hi => ?_)
  have e0 : xs[i]? = some (xs[i]'(by omega)) := List.getElem?_eq_getElem (by omega)
  obtain ⟨v, ev, _, wv⟩ := DataW.trod_int he ((hx i hi).trans e0)
  rw [Nat.mul_one] at ev
  exact ⟨v, take1_at ev, wv⟩

end
end Go.Proofs.YtcpgkkphibhdfaaGreat
