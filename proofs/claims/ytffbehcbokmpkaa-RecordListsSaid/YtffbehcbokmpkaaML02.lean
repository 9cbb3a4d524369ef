/-
  6 texts in one file, each with its own heading.
-/
import Derived.Test.YtffbehcbokmpkaaML01
import Derived.WalkKit
import Derived.ProofKit
import Derived.OpenShut
import Derived.Deep.Slices
import Derived.Laws.IdiomArrays
/-
  What the reference's Edge of layer 2 answers.
-/
namespace Go.Proofs.Ytffbehcbokmpkaa
open Go.RowKit

end Go.Proofs.Ytffbehcbokmpkaa
namespace Go.Proofs.Ytffbehcbokmpkaa
open Go.ChangeShapes Go.WideShapes Go.ChangeAt Go.RowKit Go.Deep

section
variable {H : Type} {enc : TypeId × Value → H} {w : World} {base : Nat} {spare : Nat → Bool} {held : Bool}

end
end Go.Proofs.Ytffbehcbokmpkaa
namespace Go.Proofs.Ytffbehcbokmpkaa
open Go.RowKit

theorem lt6 {k : Nat} (hk : k < 6) : k = 0 ∨ k = 1 ∨ k = 2 ∨ k = 3 ∨ k = 4 ∨ k = 5 := by omega
theorem Blk.atv {w : World} {g : Nat} {t : TypeId} {V : Nat → Int} (h : Blk w g t #[.int .i64 (V 0), .int .i64 (V 1), .int .i64 (V 2)]) {k : Nat} (hk : k < 3) : w.cell? ⟨g, k, none⟩ = some (.int .i64 (V k)) := by
  obtain rfl | rfl | rfl : k = 0 ∨ k = 1 ∨ k = 2 := by omega
  · exact h.cell 0
  · exact h.cell 1
  · exact h.cell 2
def boxTo (B : Nat → Int) : Nat → Bool
  | 0 => rightV [(B 0, B 1, B 2), (B 3, B 4, B 5)]
  | k + 1 => boxTo B k && decide (B k ≤ B (3 + k))
def okBox (B : Nat → Int) : Bool := boxTo B 3
def okPlane (P : Nat → Int) : Bool := rightB [P 0, P 1, P 2, P 3]
theorem row4 {w : World} {g : Nat} {t : TypeId} {P : Nat → Int} (h : Blk w g t #[.int .i64 (P 0), .int .i64 (P 1), .int .i64 (P 2), .int .i64 (P 3)]) : Row w (some ⟨g, 0, none⟩) 4 [P 0, P 1, P 2, P 3] := by
  refine ⟨rfl, by omega, Or.inr ⟨_, _, rfl, fun i hi => ?_⟩⟩
  obtain rfl | rfl | rfl | rfl : i = 0 ∨ i = 1 ∨ i = 2 ∨ i = 3 := by omega
  · exact h.cell 0
  · exact h.cell 1
  · exact h.cell 2
  · exact h.cell 3

def enX (N B : Nat → Int) (k : Nat) : Int := mulV (N k) (B k)
def enY (N B : Nat → Int) (k : Nat) : Int := mulV (N k) (B (3 + k))
def enBad (N B : Nat → Int) (k : Nat) : Bool := (mulE (N k) (B k) != 0) || (mulE (N k) (B (3 + k)) != 0)
def enLoL (N B : Nat → Int) (t : Int) : List Int := [t, min (enX N B 0) (enY N B 0), min (enX N B 1) (enY N B 1), min (enX N B 2) (enY N B 2)]
def enHiL (N B : Nat → Int) (t : Int) : List Int := [t, max (enX N B 0) (enY N B 0), max (enX N B 1) (enY N B 1), max (enX N B 2) (enY N B 2)]
def enE (N B : Nat → Int) (t : Int) : Int := if enBad N B 0 || enBad N B 1 || enBad N B 2 then 6 else if (addE (enLoL N B t) != 0) || (addE (enHiL N B t) != 0) then 6 else 0
def enLo (N B : Nat → Int) (t : Int) : Int := gate (enE N B t) (addV (enLoL N B t))
def enHi (N B : Nat → Int) (t : Int) : Int := gate (enE N B t) (addV (enHiL N B t))

theorem en_no {N B : Nat → Int} {t : Int} (h : enE N B t = 6) : enLo N B t = 0 ∧ enHi N B t = 0 := by unfold enLo enHi; rw [h]; exact ⟨rfl, rfl⟩
theorem enE_bad {N B : Nat → Int} {t : Int} {k : Nat} (h : enBad N B k = true) (hk : k < 3) : enE N B t = 6 := by
  unfold enE
  obtain rfl | rfl | rfl : k = 0 ∨ k = 1 ∨ k = 2 := by omega
  · rw [if_pos (by rw [h]; rfl)]
  · rw [if_pos (by rw [h, Bool.or_true]; rfl)]
  · rw [if_pos (by rw [h, Bool.or_true])]
theorem blk12 {w : World} {g : Nat} {t : TypeId} {x0 x1 x2 x3 x4 x5 x6 x7 x8 x9 x10 x11 : Value} (h : Blk w g t #[x0, x1, x2, x3, x4, x5, x6, x7, x8, x9, x10, x11]) : w.cell? ⟨g, 0, none⟩ = some x0 ∧ w.cell? ⟨g, 1, none⟩ = some x1 ∧ w.cell? ⟨g, 2, none⟩ = some x2 ∧ w.cell? ⟨g, 3, none⟩ = some x3 ∧ w.cell? ⟨g, 4, none⟩ = some x4 ∧ w.cell? ⟨g, 5, none⟩ = some x5 ∧ w.cell? ⟨g, 6, none⟩ = some x6 ∧ w.cell? ⟨g, 7, none⟩ = some x7 ∧ w.cell? ⟨g, 8, none⟩ = some x8 ∧ w.cell? ⟨g, 9, none⟩ = some x9 ∧ w.cell? ⟨g, 10, none⟩ = some x10 ∧ w.cell? ⟨g, 11, none⟩ = some x11 ∧ w.frozen? ⟨g, 0, none⟩ = false ∧ w.frozen? ⟨g, 1, none⟩ = false ∧ w.frozen? ⟨g, 2, none⟩ = false ∧ w.frozen? ⟨g, 3, none⟩ = false ∧ w.frozen? ⟨g, 4, none⟩ = false ∧ w.frozen? ⟨g, 5, none⟩ = false ∧ w.frozen? ⟨g, 6, none⟩ = false ∧ w.frozen? ⟨g, 7, none⟩ = false ∧ w.frozen? ⟨g, 8, none⟩ = false ∧ w.frozen? ⟨g, 9, none⟩ = false ∧ w.frozen? ⟨g, 10, none⟩ = false ∧ w.frozen? ⟨g, 11, none⟩ = false :=
  ⟨h.cell 0, h.cell 1, h.cell 2, h.cell 3, h.cell 4, h.cell 5, h.cell 6, h.cell 7, h.cell 8, h.cell 9, h.cell 10, h.cell 11, h.frozen 0, h.frozen 1, h.frozen 2, h.frozen 3, h.frozen 4, h.frozen 5, h.frozen 6, h.frozen 7, h.frozen 8, h.frozen 9, h.frozen 10, h.frozen 11⟩
theorem bset12 {w a : World} {g : Nat} {u0 u1 u2 u3 u4 u5 u6 u7 u8 u9 u10 u11 : Value} (h : Below w.heap.size w a) (hg : w.heap.size ≤ g) : Below w.heap.size w ((((((((((((a.setCell ⟨g, 0, none⟩ u0).setCell ⟨g, 1, none⟩ u1).setCell ⟨g, 2, none⟩ u2).setCell ⟨g, 3, none⟩ u3).setCell ⟨g, 4, none⟩ u4).setCell ⟨g, 5, none⟩ u5).setCell ⟨g, 6, none⟩ u6).setCell ⟨g, 7, none⟩ u7).setCell ⟨g, 8, none⟩ u8).setCell ⟨g, 9, none⟩ u9).setCell ⟨g, 10, none⟩ u10).setCell ⟨g, 11, none⟩ u11) := ((((((((((((h.setCell hg _).setCell hg _).setCell hg _).setCell hg _).setCell hg _).setCell hg _).setCell hg _).setCell hg _).setCell hg _).setCell hg _).setCell hg _).setCell hg _)
theorem lt12 {k : Nat} (hk : k < 12) : k = 0 ∨ k = 1 ∨ k = 2 ∨ k = 3 ∨ k = 4 ∨ k = 5 ∨ k = 6 ∨ k = 7 ∨ k = 8 ∨ k = 9 ∨ k = 10 ∨ k = 11 := by omega
theorem Blk.at12 {w : World} {g : Nat} {t : TypeId} {M : Nat → Int} (h : Blk w g t #[.int .i64 (M 0), .int .i64 (M 1), .int .i64 (M 2), .int .i64 (M 3), .int .i64 (M 4), .int .i64 (M 5), .int .i64 (M 6), .int .i64 (M 7), .int .i64 (M 8), .int .i64 (M 9), .int .i64 (M 10), .int .i64 (M 11)]) {k : Nat} (hk : k < 12) : w.cell? ⟨g, k, none⟩ = some (.int .i64 (M k)) := by
  rcases lt12 hk with rfl | rfl | rfl | rfl | rfl | rfl | rfl | rfl | rfl | rfl | rfl | rfl
  · exact h.cell 0
  · exact h.cell 1
  · exact h.cell 2
  · exact h.cell 3
  · exact h.cell 4
  · exact h.cell 5
  · exact h.cell 6
  · exact h.cell 7
  · exact h.cell 8
  · exact h.cell 9
  · exact h.cell 10
  · exact h.cell 11
def BM (w : World) (g : Nat) (M : Nat → Int) : Prop := Blk w g 26 #[.int .i64 (M 0), .int .i64 (M 1), .int .i64 (M 2), .int .i64 (M 3), .int .i64 (M 4), .int .i64 (M 5), .int .i64 (M 6), .int .i64 (M 7), .int .i64 (M 8), .int .i64 (M 9), .int .i64 (M 10), .int .i64 (M 11)]
def zeroM : Nat → Int := fun _ => 0
def okM (M : Nat → Int) : Bool := rightB [M 0, M 1, M 2, M 3, M 4, M 5, M 6, M 7, M 8, M 9, M 10, M 11]
def rightM (Ms : List (Nat → Int)) : Bool := Ms.all okM

theorem row12 {w : World} {g : Nat} {t : TypeId} {M : Nat → Int} (h : Blk w g t #[.int .i64 (M 0), .int .i64 (M 1), .int .i64 (M 2), .int .i64 (M 3), .int .i64 (M 4), .int .i64 (M 5), .int .i64 (M 6), .int .i64 (M 7), .int .i64 (M 8), .int .i64 (M 9), .int .i64 (M 10), .int .i64 (M 11)]) : Row w (some ⟨g, 0, none⟩) 12 [M 0, M 1, M 2, M 3, M 4, M 5, M 6, M 7, M 8, M 9, M 10, M 11] := by
  refine ⟨rfl, by omega, Or.inr ⟨_, _, rfl, fun k hk => ?_⟩⟩
  rcases lt12 hk with rfl | rfl | rfl | rfl | rfl | rfl | rfl | rfl | rfl | rfl | rfl | rfl
  · exact h.cell 0
  · exact h.cell 1
  · exact h.cell 2
  · exact h.cell 3
  · exact h.cell 4
  · exact h.cell 5
  · exact h.cell 6
  · exact h.cell 7
  · exact h.cell 8
  · exact h.cell 9
  · exact h.cell 10
  · exact h.cell 11
theorem okM_at {M : Nat → Int} (h : okM M = true) {k : Nat} (hk : k < 12) : okB (M k) = true := by
  unfold okM rightB at h
  simp only [List.all_cons, List.all_nil, Bool.and_true, Bool.and_eq_true] at h
  rcases lt12 hk with rfl | rfl | rfl | rfl | rfl | rfl | rfl | rfl | rfl | rfl | rfl | rfl <;> simp [h]
def MRow (w : World) (a : Option Addr) (len : Nat) (Ms : List (Nat → Int)) : Prop :=
  Ms.length = len ∧ len ≤ 9223372036854775807 ∧ (len = 0 ∨ ∃ b off, a = some ⟨b, off, none⟩ ∧ ∀ i, i < len → ∀ j, j < 12 → w.cell? ⟨b, off + i * 12 + j, none⟩ = some (.int .i64 (Ms.getD i zeroM j)))
theorem mrow_keep {w w' : World} {a : Option Addr} {len : Nat} {Ms : List (Nat → Int)} (h : MRow w a len Ms) (hb : Below w.heap.size w w') : MRow w' a len Ms := by
  obtain ⟨h1, h2, h3⟩ := h
  refine ⟨h1, h2, ?_⟩
  rcases h3 with h3 | ⟨b, off, e, hc⟩
  · exact Or.inl h3
  · exact Or.inr ⟨b, off, e, fun i hi j hj => cell_keep (hc i hi j hj) hb⟩
theorem MRow.at_ {w : World} {a : Option Addr} {len k : Nat} {Ms : List (Nat → Int)} (h : MRow w a len Ms) (hk : k < len) :
    ∃ b off M, a = some ⟨b, off, none⟩ ∧ Ms[k]? = some M ∧ w.cell? ⟨b, off + k * 12, none⟩ = some (.int .i64 (M 0)) ∧ w.cell? ⟨b, off + k * 12 + 1, none⟩ = some (.int .i64 (M 1)) ∧ w.cell? ⟨b, off + k * 12 + 2, none⟩ = some (.int .i64 (M 2)) ∧ w.cell? ⟨b, off + k * 12 + 3, none⟩ = some (.int .i64 (M 3)) ∧ w.cell? ⟨b, off + k * 12 + 4, none⟩ = some (.int .i64 (M 4)) ∧ w.cell? ⟨b, off + k * 12 + 5, none⟩ = some (.int .i64 (M 5)) ∧ w.cell? ⟨b, off + k * 12 + 6, none⟩ = some (.int .i64 (M 6)) ∧ w.cell? ⟨b, off + k * 12 + 7, none⟩ = some (.int .i64 (M 7)) ∧ w.cell? ⟨b, off + k * 12 + 8, none⟩ = some (.int .i64 (M 8)) ∧ w.cell? ⟨b, off + k * 12 + 9, none⟩ = some (.int .i64 (M 9)) ∧ w.cell? ⟨b, off + k * 12 + 10, none⟩ = some (.int .i64 (M 10)) ∧ w.cell? ⟨b, off + k * 12 + 11, none⟩ = some (.int .i64 (M 11)) := by
  obtain ⟨h1, h2, h3⟩ := h
  rcases h3 with h3 | ⟨b, off, rfl, hc⟩
  · omega
  · have hk' : k < Ms.length := by omega
    have e : Ms.getD k zeroM = Ms[k] := by simp [List.getD, List.getElem?_eq_getElem hk']
    have c := hc k hk
    rw [e] at c
    exact ⟨b, off, _, rfl, List.getElem?_eq_getElem hk', c 0 (by omega), c 1 (by omega), c 2 (by omega), c 3 (by omega), c 4 (by omega), c 5 (by omega), c 6 (by omega), c 7 (by omega), c 8 (by omega), c 9 (by omega), c 10 (by omega), c 11 (by omega)⟩
theorem rightM_succ {Ms : List (Nat → Int)} {k : Nat} {M : Nat → Int} (h : Ms[k]? = some M) (hr : rightM (Ms.take k) = true) (ho : okM M = true) : rightM (Ms.take (k + 1)) = true := by
  unfold rightM at hr ⊢
  rw [List.take_add_one, List.all_append, hr, h]
  simpa using ho
theorem rightM_bad {Ms : List (Nat → Int)} {k : Nat} {M : Nat → Int} (h : Ms[k]? = some M) (ho : okM M = false) : rightM Ms = false := by
  unfold rightM
  rw [List.all_eq_false]
  exact ⟨M, List.mem_of_getElem? h, by simpa using ho⟩
theorem rightM_all {Ms : List (Nat → Int)} {k : Nat} (hr : rightM (Ms.take k) = true) (h : Ms.length ≤ k) : rightM Ms = true := by
  rwa [List.take_of_length_le h] at hr

theorem right12_yes {w : World} {g cap : Nat} {t : TypeId} {M : Nat → Int} (ho : okM M = true) (h : Blk w g t #[.int .i64 (M 0), .int .i64 (M 1), .int .i64 (M 2), .int .i64 (M 3), .int .i64 (M 4), .int .i64 (M 5), .int .i64 (M 6), .int .i64 (M 7), .int .i64 (M 8), .int .i64 (M 9), .int .i64 (M 10), .int .i64 (M 11)]) :
    Calls Try.prog 50 #[.slice (some ⟨g, 0, none⟩) 12 cap] w fun e w' => e = .returned (.bool true) ∧ w = w' :=
  (right_any _ 12 cap [M 0, M 1, M 2, M 3, M 4, M 5, M 6, M 7, M 8, M 9, M 10, M 11] w (row12 h)).mono fun _ _ ⟨he, hw⟩ => ⟨by rw [he, show rightB [M 0, M 1, M 2, M 3, M 4, M 5, M 6, M 7, M 8, M 9, M 10, M 11] = true from ho], hw⟩
theorem right12_no {w : World} {g cap : Nat} {t : TypeId} {M : Nat → Int} (ho : okM M = false) (h : Blk w g t #[.int .i64 (M 0), .int .i64 (M 1), .int .i64 (M 2), .int .i64 (M 3), .int .i64 (M 4), .int .i64 (M 5), .int .i64 (M 6), .int .i64 (M 7), .int .i64 (M 8), .int .i64 (M 9), .int .i64 (M 10), .int .i64 (M 11)]) :
    Calls Try.prog 50 #[.slice (some ⟨g, 0, none⟩) 12 cap] w fun e w' => e = .returned (.bool false) ∧ w = w' :=
  (right_any _ 12 cap [M 0, M 1, M 2, M 3, M 4, M 5, M 6, M 7, M 8, M 9, M 10, M 11] w (row12 h)).mono fun _ _ ⟨he, hw⟩ => ⟨by rw [he, show rightB [M 0, M 1, M 2, M 3, M 4, M 5, M 6, M 7, M 8, M 9, M 10, M 11] = false from ho], hw⟩

set_option maxHeartbeats 1000000 in
theorem mright_any (a : Option Addr) (len cap : Nat) (Ms : List (Nat → Int)) (w : World) (row : MRow w a len Ms) :
    Calls Try.prog 32 #[.slice a len cap] w fun e w' => e = .returned (.bool (rightM Ms)) ∧ Below w.heap.size w w' := by
  have HL := Lib.hid row.1
  have hbig := row.2.1
  have HRow := Lib.hid row
  clear row
  go_enter Try.func32, Try.ntmps32
  go_wp2
  go_loopw [4, 7] (fun _ i wr => ∃ k : Nat, k ≤ len ∧ i = .int .i64 k ∧ rightM (Ms.take k) = true ∧ Below w.heap.size w wr) (fun _ i _ => len - (intOf i).toNat)
  case atStart => exact ⟨0, Nat.zero_le _, rfl, rfl, Below.refl _ _⟩
  case round =>
    obtain ⟨k, hk, rfl, hr, hb⟩ := hrel
    have HR := Lib.hid hr
    have HB := Lib.hid hb
    clear hr hb
    by_cases hlt : k < len
    · obtain ⟨b, off, M, rfl, hv, c0, c1, c2, c3, c4, c5, c6, c7, c8, c9, c10, c11⟩ := (mrow_keep HRow.out HB.out).at_ hlt
      have HV := Lib.hid hv
      clear hv
      by_cases ho : okM M = true
      · have HO := Lib.hid ho
        clear ho
        go_wp2_with (go_at_call 50; refine (right12_yes HO.out (Blk.new _ _ _)).mono ?_; rintro e w' ⟨rfl, rfl⟩)
        go_roundw
        case rel => exact ⟨k + 1, by omega, by go_num, rightM_succ HV.out HR.out HO.out, balloc HB.out _⟩
        case measure => simp [intOf]; omega
      · have ho' : okM M = false := by simpa using ho
        have HO := Lib.hid ho'
        clear ho ho'
        go_wp2_with (go_at_call 50; refine (right12_no HO.out (Blk.new _ _ _)).mono ?_; rintro e w' ⟨rfl, rfl⟩)
        go_ret
        exact ⟨ret_bool (rightM_bad HV.out HO.out).symm, balloc HB.out _⟩
    · go_wp2
      go_ret
      exact ⟨ret_bool (rightM_all HR.out (by rw [HL.out]; omega)).symm, HB.out⟩

theorem blk4 {w : World} {g : Nat} {t : TypeId} {x0 x1 x2 x3 : Value} (h : Blk w g t #[x0, x1, x2, x3]) : w.cell? ⟨g, 0, none⟩ = some x0 ∧ w.cell? ⟨g, 1, none⟩ = some x1 ∧ w.cell? ⟨g, 2, none⟩ = some x2 ∧ w.cell? ⟨g, 3, none⟩ = some x3 := ⟨h.cell 0, h.cell 1, h.cell 2, h.cell 3⟩
theorem blk6 {w : World} {g : Nat} {t : TypeId} {x0 x1 x2 x3 x4 x5 : Value} (h : Blk w g t #[x0, x1, x2, x3, x4, x5]) : w.cell? ⟨g, 0, none⟩ = some x0 ∧ w.cell? ⟨g, 1, none⟩ = some x1 ∧ w.cell? ⟨g, 2, none⟩ = some x2 ∧ w.cell? ⟨g, 3, none⟩ = some x3 ∧ w.cell? ⟨g, 4, none⟩ = some x4 ∧ w.cell? ⟨g, 5, none⟩ = some x5 ∧
    w.frozen? ⟨g, 0, none⟩ = false ∧ w.frozen? ⟨g, 1, none⟩ = false ∧ w.frozen? ⟨g, 2, none⟩ = false ∧ w.frozen? ⟨g, 3, none⟩ = false ∧ w.frozen? ⟨g, 4, none⟩ = false ∧ w.frozen? ⟨g, 5, none⟩ = false :=
  ⟨h.cell 0, h.cell 1, h.cell 2, h.cell 3, h.cell 4, h.cell 5, h.frozen 0, h.frozen 1, h.frozen 2, h.frozen 3, h.frozen 4, h.frozen 5⟩
end Go.Proofs.Ytffbehcbokmpkaa
