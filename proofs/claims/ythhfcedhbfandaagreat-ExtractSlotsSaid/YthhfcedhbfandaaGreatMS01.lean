/-
  13 texts in one file, each with its own heading.
-/
import Derived.Test.YthhfcedhbfandaaGreatMS00
import Derived.Deep.QuietTactic
import Derived.BigQuiet
import Derived.WalkKit
import Derived.ProofKit
import Derived.OpenShut
import Derived.Deep.Slices
import Derived.Laws.IdiomArrays
/-
  What the reference's Sub, Scale and Dot of layer 2 answer.
-/
namespace Go.Proofs.YthhfcedhbfandaaGreat
open Go.RowKit

theorem Blk.drewN {w : World} {g : Nat} {t : TypeId} {cs : Array Value} (h : Blk w g t cs) (n : Nat) : Blk (w.drewN n) g t cs := h
def laidTo (f : Nat → Int) (k j : Nat) : Value := if j < k then .int .i64 (f j) else .int .i64 0
theorem laid_step (f : Nat → Int) (k j : Nat) : (if j = k then Value.int .i64 (f k) else laidTo f k j) = laidTo f (k + 1) j := by
  unfold laidTo
  by_cases e : j = k
  · subst e; rw [if_pos rfl, if_pos (by omega)]
  · rw [if_neg e]
    by_cases e2 : j < k
    · rw [if_pos e2, if_pos (by omega)]
    · rw [if_neg e2, if_neg (by omega)]
theorem laid_start (w : World) (t : TypeId) (f : Nat → Int) : (w.alloc (.cells #[.int .i64 0, .int .i64 0, .int .i64 0] t)).rowIs w.heap.size t 3 (laidTo f 0) := by
  refine (World.rowIs_alloc w _ t (laidTo f 0) (fun i hi => ?_))
  obtain rfl | rfl | rfl : i = 0 ∨ i = 1 ∨ i = 2 := by simp at hi; omega
  · rfl
  · rfl
  · rfl
theorem err_step {e : Nat → Int} {k : Nat} (h : ∀ j, j < k → e j = 0) (he : e k = 0) : ∀ j, j < k + 1 → e j = 0 := fun i hi => by
  by_cases c : i = k
  · rw [c]; exact he
  · exact h i (by omega)

end Go.Proofs.YthhfcedhbfandaaGreat
namespace Go.Proofs.YthhfcedhbfandaaGreat
open Go.ChangeShapes Go.WideShapes Go.ChangeAt Go.RowKit Go.Deep

section
variable {H : Type} {enc : TypeId × Value → H} {w : World} {base : Nat} {spare : Nat → Bool} {held : Bool}

end
end Go.Proofs.YthhfcedhbfandaaGreat
namespace Go.Proofs.YthhfcedhbfandaaGreat
open Go.RowKit

theorem lt6 {k : Nat} (hk : k < 6) : k = 0 ∨ k = 1 ∨ k = 2 ∨ k = 3 ∨ k = 4 ∨ k = 5 := by omega
theorem Blk.atv {w : World} {g : Nat} {t : TypeId} {V : Nat → Int} (h : Blk w g t #[.int .i64 (V 0), .int .i64 (V 1), .int .i64 (V 2)]) {k : Nat} (hk : k < 3) : w.cell? ⟨g, k, none⟩ = some (.int .i64 (V k)) := by
  obtain rfl | rfl | rfl : k = 0 ∨ k = 1 ∨ k = 2 := by omega
  · exact h.cell 0
  · exact h.cell 1
  · exact h.cell 2
def boxTo (B : Nat → Int) : Nat → Bool
  | 0 => rightV [(B 0, B 1, B 2), (B 3, B 4, B 5)]
  | k + 1 => boxTo B k && decide (B k ≤ B (3 + k))
def okBox (B : Nat → Int) : Bool := boxTo B 3
def okPlane (P : Nat → Int) : Bool := rightB [P 0, P 1, P 2, P 3]
theorem row4 {w : World} {g : Nat} {t : TypeId} {P : Nat → Int} (h : Blk w g t #[.int .i64 (P 0), .int .i64 (P 1), .int .i64 (P 2), .int .i64 (P 3)]) : Row w (some ⟨g, 0, none⟩) 4 [P 0, P 1, P 2, P 3] := by
  refine ⟨rfl, by omega, Or.inr ⟨_, _, rfl, fun i hi => ?_⟩⟩
  obtain rfl | rfl | rfl | rfl : i = 0 ∨ i = 1 ∨ i = 2 ∨ i = 3 := by omega
  · exact h.cell 0
  · exact h.cell 1
  · exact h.cell 2
  · exact h.cell 3

def enX (N B : Nat → Int) (k : Nat) : Int := mulV (N k) (B k)
def enY (N B : Nat → Int) (k : Nat) : Int := mulV (N k) (B (3 + k))
def enBad (N B : Nat → Int) (k : Nat) : Bool := (mulE (N k) (B k) != 0) || (mulE (N k) (B (3 + k)) != 0)
def enLoL (N B : Nat → Int) (t : Int) : List Int := [t, min (enX N B 0) (enY N B 0), min (enX N B 1) (enY N B 1), min (enX N B 2) (enY N B 2)]
def enHiL (N B : Nat → Int) (t : Int) : List Int := [t, max (enX N B 0) (enY N B 0), max (enX N B 1) (enY N B 1), max (enX N B 2) (enY N B 2)]
def enE (N B : Nat → Int) (t : Int) : Int := if enBad N B 0 || enBad N B 1 || enBad N B 2 then 6 else if (addE (enLoL N B t) != 0) || (addE (enHiL N B t) != 0) then 6 else 0
def enLo (N B : Nat → Int) (t : Int) : Int := gate (enE N B t) (addV (enLoL N B t))
def enHi (N B : Nat → Int) (t : Int) : Int := gate (enE N B t) (addV (enHiL N B t))

theorem en_no {N B : Nat → Int} {t : Int} (h : enE N B t = 6) : enLo N B t = 0 ∧ enHi N B t = 0 := by unfold enLo enHi; rw [h]; exact ⟨rfl, rfl⟩
theorem enE_bad {N B : Nat → Int} {t : Int} {k : Nat} (h : enBad N B k = true) (hk : k < 3) : enE N B t = 6 := by
  unfold enE
  obtain rfl | rfl | rfl : k = 0 ∨ k = 1 ∨ k = 2 := by omega
  · rw [if_pos (by rw [h]; rfl)]
  · rw [if_pos (by rw [h, Bool.or_true]; rfl)]
  · rw [if_pos (by rw [h, Bool.or_true])]
theorem blk12 {w : World} {g : Nat} {t : TypeId} {x0 x1 x2 x3 x4 x5 x6 x7 x8 x9 x10 x11 : Value} (h : Blk w g t #[x0, x1, x2, x3, x4, x5, x6, x7, x8, x9, x10, x11]) : w.cell? ⟨g, 0, none⟩ = some x0 ∧ w.cell? ⟨g, 1, none⟩ = some x1 ∧ w.cell? ⟨g, 2, none⟩ = some x2 ∧ w.cell? ⟨g, 3, none⟩ = some x3 ∧ w.cell? ⟨g, 4, none⟩ = some x4 ∧ w.cell? ⟨g, 5, none⟩ = some x5 ∧ w.cell? ⟨g, 6, none⟩ = some x6 ∧ w.cell? ⟨g, 7, none⟩ = some x7 ∧ w.cell? ⟨g, 8, none⟩ = some x8 ∧ w.cell? ⟨g, 9, none⟩ = some x9 ∧ w.cell? ⟨g, 10, none⟩ = some x10 ∧ w.cell? ⟨g, 11, none⟩ = some x11 ∧ w.frozen? ⟨g, 0, none⟩ = false ∧ w.frozen? ⟨g, 1, none⟩ = false ∧ w.frozen? ⟨g, 2, none⟩ = false ∧ w.frozen? ⟨g, 3, none⟩ = false ∧ w.frozen? ⟨g, 4, none⟩ = false ∧ w.frozen? ⟨g, 5, none⟩ = false ∧ w.frozen? ⟨g, 6, none⟩ = false ∧ w.frozen? ⟨g, 7, none⟩ = false ∧ w.frozen? ⟨g, 8, none⟩ = false ∧ w.frozen? ⟨g, 9, none⟩ = false ∧ w.frozen? ⟨g, 10, none⟩ = false ∧ w.frozen? ⟨g, 11, none⟩ = false :=
  ⟨h.cell 0, h.cell 1, h.cell 2, h.cell 3, h.cell 4, h.cell 5, h.cell 6, h.cell 7, h.cell 8, h.cell 9, h.cell 10, h.cell 11, h.frozen 0, h.frozen 1, h.frozen 2, h.frozen 3, h.frozen 4, h.frozen 5, h.frozen 6, h.frozen 7, h.frozen 8, h.frozen 9, h.frozen 10, h.frozen 11⟩
theorem bset12 {w a : World} {g : Nat} {u0 u1 u2 u3 u4 u5 u6 u7 u8 u9 u10 u11 : Value} (h : Below w.heap.size w a) (hg : w.heap.size ≤ g) : Below w.heap.size w ((((((((((((a.setCell ⟨g, 0, none⟩ u0).setCell ⟨g, 1, none⟩ u1).setCell ⟨g, 2, none⟩ u2).setCell ⟨g, 3, none⟩ u3).setCell ⟨g, 4, none⟩ u4).setCell ⟨g, 5, none⟩ u5).setCell ⟨g, 6, none⟩ u6).setCell ⟨g, 7, none⟩ u7).setCell ⟨g, 8, none⟩ u8).setCell ⟨g, 9, none⟩ u9).setCell ⟨g, 10, none⟩ u10).setCell ⟨g, 11, none⟩ u11) := ((((((((((((h.setCell hg _).setCell hg _).setCell hg _).setCell hg _).setCell hg _).setCell hg _).setCell hg _).setCell hg _).setCell hg _).setCell hg _).setCell hg _).setCell hg _)
theorem lt12 {k : Nat} (hk : k < 12) : k = 0 ∨ k = 1 ∨ k = 2 ∨ k = 3 ∨ k = 4 ∨ k = 5 ∨ k = 6 ∨ k = 7 ∨ k = 8 ∨ k = 9 ∨ k = 10 ∨ k = 11 := by omega
theorem Blk.at12 {w : World} {g : Nat} {t : TypeId} {M : Nat → Int} (h : Blk w g t #[.int .i64 (M 0), .int .i64 (M 1), .int .i64 (M 2), .int .i64 (M 3), .int .i64 (M 4), .int .i64 (M 5), .int .i64 (M 6), .int .i64 (M 7), .int .i64 (M 8), .int .i64 (M 9), .int .i64 (M 10), .int .i64 (M 11)]) {k : Nat} (hk : k < 12) : w.cell? ⟨g, k, none⟩ = some (.int .i64 (M k)) := by
  rcases lt12 hk with rfl | rfl | rfl | rfl | rfl | rfl | rfl | rfl | rfl | rfl | rfl | rfl
  · exact h.cell 0
  · exact h.cell 1
  · exact h.cell 2
  · exact h.cell 3
  · exact h.cell 4
  · exact h.cell 5
  · exact h.cell 6
  · exact h.cell 7
  · exact h.cell 8
  · exact h.cell 9
  · exact h.cell 10
  · exact h.cell 11
theorem Blk.at3 {w : World} {g : Nat} {t : TypeId} {M : Nat → Int} (h : Blk w g t #[.int .i64 (M 0), .int .i64 (M 1), .int .i64 (M 2)]) {k : Nat} (hk : k < 3) : w.cell? ⟨g, k, none⟩ = some (.int .i64 (M k)) := by
  obtain rfl | rfl | rfl : k = 0 ∨ k = 1 ∨ k = 2 := by omega
  · exact h.cell 0
  · exact h.cell 1
  · exact h.cell 2
def BM (w : World) (g : Nat) (M : Nat → Int) : Prop := Blk w g 46 #[.int .i64 (M 0), .int .i64 (M 1), .int .i64 (M 2), .int .i64 (M 3), .int .i64 (M 4), .int .i64 (M 5), .int .i64 (M 6), .int .i64 (M 7), .int .i64 (M 8), .int .i64 (M 9), .int .i64 (M 10), .int .i64 (M 11)]
def BV3 (w : World) (g : Nat) (V : Nat → Int) : Prop := Blk w g 48 #[.int .i64 (V 0), .int .i64 (V 1), .int .i64 (V 2)]
def zeroM : Nat → Int := fun _ => 0
def okM (M : Nat → Int) : Bool := rightB [M 0, M 1, M 2, M 3, M 4, M 5, M 6, M 7, M 8, M 9, M 10, M 11]
def rightM (Ms : List (Nat → Int)) : Bool := Ms.all okM

theorem row12 {w : World} {g : Nat} {t : TypeId} {M : Nat → Int} (h : Blk w g t #[.int .i64 (M 0), .int .i64 (M 1), .int .i64 (M 2), .int .i64 (M 3), .int .i64 (M 4), .int .i64 (M 5), .int .i64 (M 6), .int .i64 (M 7), .int .i64 (M 8), .int .i64 (M 9), .int .i64 (M 10), .int .i64 (M 11)]) : Row w (some ⟨g, 0, none⟩) 12 [M 0, M 1, M 2, M 3, M 4, M 5, M 6, M 7, M 8, M 9, M 10, M 11] := by
  refine ⟨rfl, by omega, Or.inr ⟨_, _, rfl, fun k hk => ?_⟩⟩
  rcases lt12 hk with rfl | rfl | rfl | rfl | rfl | rfl | rfl | rfl | rfl | rfl | rfl | rfl
  · exact h.cell 0
  · exact h.cell 1
  · exact h.cell 2
  · exact h.cell 3
  · exact h.cell 4
  · exact h.cell 5
  · exact h.cell 6
  · exact h.cell 7
  · exact h.cell 8
  · exact h.cell 9
  · exact h.cell 10
  · exact h.cell 11
theorem okM_at {M : Nat → Int} (h : okM M = true) {k : Nat} (hk : k < 12) : okB (M k) = true := by
  unfold okM rightB at h
  simp only [List.all_cons, List.all_nil, Bool.and_true, Bool.and_eq_true] at h
  rcases lt12 hk with rfl | rfl | rfl | rfl | rfl | rfl | rfl | rfl | rfl | rfl | rfl | rfl <;> simp [h]
theorem okM_of {M : Nat → Int} (h : ∀ k, k < 12 → okB (M k) = true) : okM M = true := by
  unfold okM rightB
  simp [h 0 (by omega), h 1 (by omega), h 2 (by omega), h 3 (by omega), h 4 (by omega), h 5 (by omega), h 6 (by omega), h 7 (by omega), h 8 (by omega), h 9 (by omega), h 10 (by omega), h 11 (by omega)]

def MRow (w : World) (a : Option Addr) (len : Nat) (Ms : List (Nat → Int)) : Prop :=
  Ms.length = len ∧ len ≤ 9223372036854775807 ∧ (len = 0 ∨ ∃ b off, a = some ⟨b, off, none⟩ ∧ ∀ i, i < len → ∀ j, j < 12 → w.cell? ⟨b, off + i * 12 + j, none⟩ = some (.int .i64 (Ms.getD i zeroM j)))
theorem mrow_keep {w w' : World} {a : Option Addr} {len : Nat} {Ms : List (Nat → Int)} (h : MRow w a len Ms) (hb : Below w.heap.size w w') : MRow w' a len Ms := by
  obtain ⟨h1, h2, h3⟩ := h
  refine ⟨h1, h2, ?_⟩
  rcases h3 with h3 | ⟨b, off, e, hc⟩
  · exact Or.inl h3
  · exact Or.inr ⟨b, off, e, fun i hi j hj => cell_keep (hc i hi j hj) hb⟩
theorem MRow.at_ {w : World} {a : Option Addr} {len k : Nat} {Ms : List (Nat → Int)} (h : MRow w a len Ms) (hk : k < len) :
    ∃ b off M, a = some ⟨b, off, none⟩ ∧ Ms[k]? = some M ∧ w.cell? ⟨b, off + k * 12, none⟩ = some (.int .i64 (M 0)) ∧ w.cell? ⟨b, off + k * 12 + 1, none⟩ = some (.int .i64 (M 1)) ∧ w.cell? ⟨b, off + k * 12 + 2, none⟩ = some (.int .i64 (M 2)) ∧ w.cell? ⟨b, off + k * 12 + 3, none⟩ = some (.int .i64 (M 3)) ∧ w.cell? ⟨b, off + k * 12 + 4, none⟩ = some (.int .i64 (M 4)) ∧ w.cell? ⟨b, off + k * 12 + 5, none⟩ = some (.int .i64 (M 5)) ∧ w.cell? ⟨b, off + k * 12 + 6, none⟩ = some (.int .i64 (M 6)) ∧ w.cell? ⟨b, off + k * 12 + 7, none⟩ = some (.int .i64 (M 7)) ∧ w.cell? ⟨b, off + k * 12 + 8, none⟩ = some (.int .i64 (M 8)) ∧ w.cell? ⟨b, off + k * 12 + 9, none⟩ = some (.int .i64 (M 9)) ∧ w.cell? ⟨b, off + k * 12 + 10, none⟩ = some (.int .i64 (M 10)) ∧ w.cell? ⟨b, off + k * 12 + 11, none⟩ = some (.int .i64 (M 11)) := by
  obtain ⟨h1, h2, h3⟩ := h
  rcases h3 with h3 | ⟨b, off, rfl, hc⟩
  · omega
  · have hk' : k < Ms.length := by omega
    have e : Ms.getD k zeroM = Ms[k] := by simp [List.getD, List.getElem?_eq_getElem hk']
    have c := hc k hk
    rw [e] at c
    exact ⟨b, off, _, rfl, List.getElem?_eq_getElem hk', c 0 (by omega), c 1 (by omega), c 2 (by omega), c 3 (by omega), c 4 (by omega), c 5 (by omega), c 6 (by omega), c 7 (by omega), c 8 (by omega), c 9 (by omega), c 10 (by omega), c 11 (by omega)⟩
theorem rightM_succ {Ms : List (Nat → Int)} {k : Nat} {M : Nat → Int} (h : Ms[k]? = some M) (hr : rightM (Ms.take k) = true) (ho : okM M = true) : rightM (Ms.take (k + 1)) = true := by
  unfold rightM at hr ⊢
  rw [List.take_add_one, List.all_append, hr, h]
  simpa using ho
theorem rightM_bad {Ms : List (Nat → Int)} {k : Nat} {M : Nat → Int} (h : Ms[k]? = some M) (ho : okM M = false) : rightM Ms = false := by
  unfold rightM
  rw [List.all_eq_false]
  exact ⟨M, List.mem_of_getElem? h, by simpa using ho⟩
theorem rightM_all {Ms : List (Nat → Int)} {k : Nat} (hr : rightM (Ms.take k) = true) (h : Ms.length ≤ k) : rightM Ms = true := by
  rwa [List.take_of_length_le h] at hr

theorem right12_yes {w : World} {g cap : Nat} {t : TypeId} {M : Nat → Int} (ho : okM M = true) (h : Blk w g t #[.int .i64 (M 0), .int .i64 (M 1), .int .i64 (M 2), .int .i64 (M 3), .int .i64 (M 4), .int .i64 (M 5), .int .i64 (M 6), .int .i64 (M 7), .int .i64 (M 8), .int .i64 (M 9), .int .i64 (M 10), .int .i64 (M 11)]) :
    Calls Tryz.prog 249 #[.slice (some ⟨g, 0, none⟩) 12 cap] w fun e w' => e = .returned (.bool true) ∧ w = w' :=
  (right_any _ 12 cap [M 0, M 1, M 2, M 3, M 4, M 5, M 6, M 7, M 8, M 9, M 10, M 11] w (row12 h)).mono fun _ _ ⟨he, hw⟩ => ⟨by rw [he, show rightB [M 0, M 1, M 2, M 3, M 4, M 5, M 6, M 7, M 8, M 9, M 10, M 11] = true from ho], hw⟩
theorem right12_no {w : World} {g cap : Nat} {t : TypeId} {M : Nat → Int} (ho : okM M = false) (h : Blk w g t #[.int .i64 (M 0), .int .i64 (M 1), .int .i64 (M 2), .int .i64 (M 3), .int .i64 (M 4), .int .i64 (M 5), .int .i64 (M 6), .int .i64 (M 7), .int .i64 (M 8), .int .i64 (M 9), .int .i64 (M 10), .int .i64 (M 11)]) :
    Calls Tryz.prog 249 #[.slice (some ⟨g, 0, none⟩) 12 cap] w fun e w' => e = .returned (.bool false) ∧ w = w' :=
  (right_any _ 12 cap [M 0, M 1, M 2, M 3, M 4, M 5, M 6, M 7, M 8, M 9, M 10, M 11] w (row12 h)).mono fun _ _ ⟨he, hw⟩ => ⟨by rw [he, show rightB [M 0, M 1, M 2, M 3, M 4, M 5, M 6, M 7, M 8, M 9, M 10, M 11] = false from ho], hw⟩

set_option maxHeartbeats 1000000 in
theorem mright_any (a : Option Addr) (len cap : Nat) (Ms : List (Nat → Int)) (w : World) (row : MRow w a len Ms) :
    Calls Tryz.prog 188 #[.slice a len cap] w fun e w' => e = .returned (.bool (rightM Ms)) ∧ Below w.heap.size w w' := by
  have HL := Lib.hid row.1
  have hbig := row.2.1
  have HRow := Lib.hid row
  clear row
  go_enter Tryz.func188, Tryz.ntmps188
  go_wp2
  go_loopw [4, 7] (fun _ i wr => ∃ k : Nat, k ≤ len ∧ i = .int .i64 k ∧ rightM (Ms.take k) = true ∧ Below w.heap.size w wr) (fun _ i _ => len - (intOf i).toNat)
  case atStart => exact ⟨0, Nat.zero_le _, rfl, rfl, Below.refl _ _⟩
  case round =>
    obtain ⟨k, hk, rfl, hr, hb⟩ := hrel
    have HR := Lib.hid hr
    have HB := Lib.hid hb
    clear hr hb
    by_cases hlt : k < len
    · obtain ⟨b, off, M, rfl, hv, c0, c1, c2, c3, c4, c5, c6, c7, c8, c9, c10, c11⟩ := (mrow_keep HRow.out HB.out).at_ hlt
      have HV := Lib.hid hv
      clear hv
      by_cases ho : okM M = true
      · have HO := Lib.hid ho
        clear ho
        go_wp2_with (go_at_call 249; refine (right12_yes HO.out (Blk.new _ _ _)).mono ?_; rintro e w' ⟨rfl, rfl⟩)
        go_roundw
        case rel => exact ⟨k + 1, by omega, by go_num, rightM_succ HV.out HR.out HO.out, balloc HB.out _⟩
        case measure => simp [intOf]; omega
      · have ho' : okM M = false := by simpa using ho
        have HO := Lib.hid ho'
        clear ho ho'
        go_wp2_with (go_at_call 249; refine (right12_no HO.out (Blk.new _ _ _)).mono ?_; rintro e w' ⟨rfl, rfl⟩)
        go_ret
        exact ⟨ret_bool (rightM_bad HV.out HO.out).symm, balloc HB.out _⟩
    · go_wp2
      go_ret
      exact ⟨ret_bool (rightM_all HR.out (by rw [HL.out]; omega)).symm, HB.out⟩

theorem at_any (r p : Nat) (w : World) (hr : r < 3) (hp : p < 4) :
    Calls Tryz.prog 286 #[.int .i64 r, .int .i64 p] w fun e w' => e = .returned (.int .i64 ((4 * r + p : Nat) : Int)) ∧ w = w' := by
  go_enter Tryz.func286, Tryz.ntmps286
  go_wp2
  go_ret
  exact ⟨ret_int (by omega), rfl⟩
theorem at_last (r : Nat) (w : World) (hr : r < 3) :
    Calls Tryz.prog 286 #[.int .i64 r, .int .i64 3] w fun e w' => e = .returned (.int .i64 ((4 * r + 3 : Nat) : Int)) ∧ w = w' := at_any r 3 w hr (by omega)

theorem blk4 {w : World} {g : Nat} {t : TypeId} {x0 x1 x2 x3 : Value} (h : Blk w g t #[x0, x1, x2, x3]) : w.cell? ⟨g, 0, none⟩ = some x0 ∧ w.cell? ⟨g, 1, none⟩ = some x1 ∧ w.cell? ⟨g, 2, none⟩ = some x2 ∧ w.cell? ⟨g, 3, none⟩ = some x3 := ⟨h.cell 0, h.cell 1, h.cell 2, h.cell 3⟩
theorem blk6 {w : World} {g : Nat} {t : TypeId} {x0 x1 x2 x3 x4 x5 : Value} (h : Blk w g t #[x0, x1, x2, x3, x4, x5]) : w.cell? ⟨g, 0, none⟩ = some x0 ∧ w.cell? ⟨g, 1, none⟩ = some x1 ∧ w.cell? ⟨g, 2, none⟩ = some x2 ∧ w.cell? ⟨g, 3, none⟩ = some x3 ∧ w.cell? ⟨g, 4, none⟩ = some x4 ∧ w.cell? ⟨g, 5, none⟩ = some x5 ∧
    w.frozen? ⟨g, 0, none⟩ = false ∧ w.frozen? ⟨g, 1, none⟩ = false ∧ w.frozen? ⟨g, 2, none⟩ = false ∧ w.frozen? ⟨g, 3, none⟩ = false ∧ w.frozen? ⟨g, 4, none⟩ = false ∧ w.frozen? ⟨g, 5, none⟩ = false :=
  ⟨h.cell 0, h.cell 1, h.cell 2, h.cell 3, h.cell 4, h.cell 5, h.frozen 0, h.frozen 1, h.frozen 2, h.frozen 3, h.frozen 4, h.frozen 5⟩
def rowM (M : Nat → Int) (r k : Nat) : Int := M (4 * r + k)
def caLo (M B : Nat → Int) (r : Nat) : Int := enLo (rowM M r) B (M (4 * r + 3))
def caHi (M B : Nat → Int) (r : Nat) : Int := enHi (rowM M r) B (M (4 * r + 3))
def caE (M B : Nat → Int) (r : Nat) : Int := enE (rowM M r) B (M (4 * r + 3))
def caK (M B : Nat → Int) (k : Nat) : Int := if k < 3 then caLo M B k else caHi M B (k - 3)
def carOk (M B : Nat → Int) : Bool := okM M && okBox B
def carE (M B : Nat → Int) : Int := if carOk M B then first3 (caE M B 0) (caE M B 1) (caE M B 2) else 1
def carV (M B : Nat → Int) (k : Nat) : Int := gate (carE M B) (caK M B k)
theorem carE_yes {M B : Nat → Int} (h : okM M = true) (h' : okBox B = true) : carE M B = first3 (caE M B 0) (caE M B 1) (caE M B 2) := by unfold carE carOk; rw [h, h']; rfl
theorem carE_no {M B : Nat → Int} (h : carOk M B = false) : carE M B = 1 := by unfold carE; rw [h]; rfl
theorem carV_no {M B : Nat → Int} (h : carOk M B = false) (k : Nat) : carV M B k = 0 := by unfold carV; rw [carE_no h]; rfl
theorem carV_of {M B : Nat → Int} {e : Int} (h : carE M B = e) (k : Nat) : carV M B k = gate e (caK M B k) := by unfold carV; rw [h]

theorem bset6 {w a : World} {g : Nat} {u0 u1 u2 u3 u4 u5 : Value} (h : Below w.heap.size w a) (hg : w.heap.size ≤ g) : Below w.heap.size w ((((((a.setCell ⟨g, 0, none⟩ u0).setCell ⟨g, 1, none⟩ u1).setCell ⟨g, 2, none⟩ u2).setCell ⟨g, 3, none⟩ u3).setCell ⟨g, 4, none⟩ u4).setCell ⟨g, 5, none⟩ u5) :=
  (((((h.setCell hg _).setCell hg _).setCell hg _).setCell hg _).setCell hg _).setCell hg _
def rowsTo (f : Nat → Int) (r j : Nat) : Value := if j % 3 < r then .int .i64 (f j) else .int .i64 0
theorem rows_start (w : World) (t : TypeId) (f : Nat → Int) : (w.alloc (.cells #[.int .i64 0, .int .i64 0, .int .i64 0, .int .i64 0, .int .i64 0, .int .i64 0] t)).rowIs w.heap.size t 6 (rowsTo f 0) := by
  refine (World.rowIs_alloc w _ t (rowsTo f 0) (fun i hi => ?_))
  rcases lt6 (k := i) (by simpa using hi) with rfl | rfl | rfl | rfl | rfl | rfl <;> rfl
theorem rows_step (f : Nat → Int) {r j : Nat} (hr : r < 3) (hj : j < 6) : (if j = 3 + r then Value.int .i64 (f (3 + r)) else if j = r then .int .i64 (f r) else rowsTo f r j) = rowsTo f (r + 1) j := by
  unfold rowsTo
  by_cases e1 : j = 3 + r
  · rw [if_pos e1, if_pos (by omega), e1]
  · rw [if_neg e1]
    by_cases e2 : j = r
    · rw [if_pos e2, if_pos (by omega), e2]
    · rw [if_neg e2]
      by_cases e3 : j % 3 < r
      · rw [if_pos e3, if_pos (by omega)]
      · rw [if_neg e3, if_neg (by omega)]

def r3 (x y z : Int) (j : Nat) : Int := [x, y, z].getD j 0
end Go.Proofs.YthhfcedhbfandaaGreat
namespace Go.Proofs.YthhfcedhbfandaaGreat
open Go.ChangeShapes Go.WideShapes Go.ChangeAt Go.RowKit Go.Deep

def zeroB : Nat → Int := fun _ => 0
def BRow (w : World) (a : Option Addr) (len : Nat) (Bs : List (Nat → Int)) : Prop :=
  Bs.length = len ∧ len ≤ 9223372036854775807 ∧ (len = 0 ∨ ∃ b off, a = some ⟨b, off, none⟩ ∧ ∀ i, i < len → ∀ j, j < 6 → w.cell? ⟨b, off + i * 6 + j, none⟩ = some (.int .i64 (Bs.getD i zeroB j)))
theorem brow_keep {w w' : World} {a : Option Addr} {len : Nat} {Bs : List (Nat → Int)} (h : BRow w a len Bs) (hb : Below w.heap.size w w') : BRow w' a len Bs := by
  obtain ⟨h1, h2, h3⟩ := h
  refine ⟨h1, h2, ?_⟩
  rcases h3 with h3 | ⟨b, off, e, hc⟩
  · exact Or.inl h3
  · exact Or.inr ⟨b, off, e, fun i hi j hj => cell_keep (hc i hi j hj) hb⟩
theorem BRow.at_ {w : World} {a : Option Addr} {len k : Nat} {Bs : List (Nat → Int)} (h : BRow w a len Bs) (hk : k < len) :
    ∃ b off B, a = some ⟨b, off, none⟩ ∧ Bs[k]? = some B ∧ w.cell? ⟨b, off + k * 6, none⟩ = some (.int .i64 (B 0)) ∧ w.cell? ⟨b, off + k * 6 + 1, none⟩ = some (.int .i64 (B 1)) ∧ w.cell? ⟨b, off + k * 6 + 2, none⟩ = some (.int .i64 (B 2)) ∧ w.cell? ⟨b, off + k * 6 + 3, none⟩ = some (.int .i64 (B 3)) ∧ w.cell? ⟨b, off + k * 6 + 4, none⟩ = some (.int .i64 (B 4)) ∧ w.cell? ⟨b, off + k * 6 + 5, none⟩ = some (.int .i64 (B 5)) := by
  obtain ⟨h1, h2, h3⟩ := h
  rcases h3 with h3 | ⟨b, off, rfl, hc⟩
  · omega
  · have hk' : k < Bs.length := by omega
    have e : Bs.getD k zeroB = Bs[k] := by simp [List.getD, List.getElem?_eq_getElem hk']
    have c := hc k hk
    rw [e] at c
    exact ⟨b, off, _, rfl, List.getElem?_eq_getElem hk', c 0 (by omega), c 1 (by omega), c 2 (by omega), c 3 (by omega), c 4 (by omega), c 5 (by omega)⟩
def rightBx (Bs : List (Nat → Int)) : Bool := Bs.all okBox
theorem rightBx_bad {Bs : List (Nat → Int)} {k : Nat} {B : Nat → Int} (h : Bs[k]? = some B) (ho : okBox B = false) : rightBx Bs = false := by
  unfold rightBx
  rw [List.all_eq_false]
  exact ⟨B, List.mem_of_getElem? h, by simpa using ho⟩
theorem rightBx_succ {Bs : List (Nat → Int)} {k : Nat} {B : Nat → Int} (h : Bs[k]? = some B) (hr : rightBx (Bs.take k) = true) (ho : okBox B = true) : rightBx (Bs.take (k + 1)) = true := by
  unfold rightBx at hr ⊢
  rw [List.take_add_one, List.all_append, hr, h]
  simpa using ho
end Go.Proofs.YthhfcedhbfandaaGreat
namespace Go.Proofs.YthhfcedhbfandaaGreat
open Go.RowKit

def diagM (V : Nat → Int) (k : Nat) : Int := if k = 0 then V 0 else if k = 5 then V 1 else if k = 10 then V 2 else 0
def sameM : Nat → Int := diagM (fun _ => 65536)
theorem fin {Q : World → Prop} {W : World} (P : World → Prop) (h : P W) (k : ∀ W', P W' → Q W') : Q W := k W h
theorem bdrewn {n : Nat} {w a : World} (h : Below n w a) : Below n w a.drew := ⟨h.os, h.tape, h.output, h.size, h.block⟩

set_option maxHeartbeats 1000000 in
theorem scale_xyz (x y z : Int) (w : World) :
    Calls Tryz.prog 252 #[.agg #[.int .i64 x, .int .i64 y, .int .i64 z]] w fun e w' => e = .returned (.agg #[.int .i64 x, .int .i64 0, .int .i64 0, .int .i64 0, .int .i64 0, .int .i64 y, .int .i64 0, .int .i64 0, .int .i64 0, .int .i64 0, .int .i64 z, .int .i64 0]) ∧ Below w.heap.size w w' := by
  go_enter Tryz.func252, Tryz.ntmps252
  go_wp2
  refine wp_loop_rounds 4 ?_
  rw [rounds_succ]
  go_wp2
  go_region_held3 (fun w' => w'.cell? ⟨w.heap.size, 0, none⟩ = some (.int .i64 x)) (first | go_keep)
    (first | (go_at_call 286; refine (at_any 0 0 _ (by omega) (by omega)).mono ?_; rintro e w1 ⟨rfl, rfl⟩))
  go_wp2
  rw [rounds_succ]
  go_wp2
  go_region_held3 (fun w' => w'.cell? ⟨w.heap.size, 1, none⟩ = some (.int .i64 y)) (first | go_keep)
    (first | (go_at_call 286; refine (at_any 1 1 _ (by omega) (by omega)).mono ?_; rintro e w1 ⟨rfl, rfl⟩))
  go_wp2
  rw [rounds_succ]
  go_wp2
  go_region_held3 (fun w' => w'.cell? ⟨w.heap.size, 2, none⟩ = some (.int .i64 z)) (first | go_keep)
    (first | (go_at_call 286; refine (at_any 2 2 _ (by omega) (by omega)).mono ?_; rintro e w1 ⟨rfl, rfl⟩))
  go_wp2
  rw [rounds_succ]
  go_wp2
  exact bodyPost_ret (v := .agg #[.int .i64 x, .int .i64 0, .int .i64 0, .int .i64 0, .int .i64 0, .int .i64 y, .int .i64 0, .int .i64 0, .int .i64 0, .int .i64 0, .int .i64 z, .int .i64 0]) (by simp [results, Tryz.results252, go_sem]) rfl ⟨rfl, bdrewn (bdrewn (bdrewn (balloc (balloc (alloc_below _ _) _) _)))⟩

set_option maxHeartbeats 1000000 in
theorem rdiag_xyz (x y z : Int) (w : World) :
    Calls Tryz.prog 106 #[.agg #[.int .i64 x, .int .i64 y, .int .i64 z]] w fun e w' => e = .returned (.agg #[.int .i64 x, .int .i64 0, .int .i64 0, .int .i64 0, .int .i64 0, .int .i64 y, .int .i64 0, .int .i64 0, .int .i64 0, .int .i64 0, .int .i64 z, .int .i64 0]) ∧ Below w.heap.size w w' := by
  go_enter Tryz.func106, Tryz.ntmps106
  go_wp2
  refine wp_loop_rounds 4 ?_
  rw [rounds_succ]
  go_wp2
  rw [rounds_succ]
  go_wp2
  rw [rounds_succ]
  go_wp2
  rw [rounds_succ]
  go_wp2
  exact bodyPost_ret (v := .agg #[.int .i64 x, .int .i64 0, .int .i64 0, .int .i64 0, .int .i64 0, .int .i64 y, .int .i64 0, .int .i64 0, .int .i64 0, .int .i64 0, .int .i64 z, .int .i64 0]) (by simp [results, Tryz.results106, go_sem]) rfl ⟨rfl, balloc (balloc (alloc_below _ _) _) _⟩

set_option maxHeartbeats 1000000 in
theorem same_any (w : World) :
    Calls Tryz.prog 194 #[] w fun e w' => e = .returned (.agg #[.int .i64 65536, .int .i64 0, .int .i64 0, .int .i64 0, .int .i64 0, .int .i64 65536, .int .i64 0, .int .i64 0, .int .i64 0, .int .i64 0, .int .i64 65536, .int .i64 0]) ∧ Below w.heap.size w w' := by
  go_enter Tryz.func194, Tryz.ntmps194
  go_wp2_with fail
  refine (scale_xyz 65536 65536 65536 _).mono ?_
  rintro e w1 ⟨rfl, b1⟩
  have K1 := Lib.hid ((Blk.new w 46 _).keep b1)
  have B1 := Lib.hid (bthen (alloc_below _ _) b1)
  clear b1
  obtain ⟨c0, c1, c2, c3, c4, c5, c6, c7, c8, c9, c10, c11, f0, f1, f2, f3, f4, f5, f6, f7, f8, f9, f10, f11⟩ := blk12 K1.out
  go_wp2
  exact bodyPost_ret (v := .agg #[.int .i64 65536, .int .i64 0, .int .i64 0, .int .i64 0, .int .i64 0, .int .i64 65536, .int .i64 0, .int .i64 0, .int .i64 0, .int .i64 0, .int .i64 65536, .int .i64 0]) (by simp [results, Tryz.results194, go_sem, c0, c1, c2, c3, c4, c5, c6, c7, c8, c9, c10, c11]) rfl ⟨rfl, bset12 B1.out (by omega)⟩

set_option maxHeartbeats 1000000 in
theorem rsame_any (w : World) :
    Calls Tryz.prog 60 #[] w fun e w' => e = .returned (.agg #[.int .i64 65536, .int .i64 0, .int .i64 0, .int .i64 0, .int .i64 0, .int .i64 65536, .int .i64 0, .int .i64 0, .int .i64 0, .int .i64 0, .int .i64 65536, .int .i64 0]) ∧ Below w.heap.size w w' := by
  go_enter Tryz.func60, Tryz.ntmps60
  go_wp2_with fail
  refine (rdiag_xyz 65536 65536 65536 _).mono ?_
  rintro e w1 ⟨rfl, b1⟩
  have K1 := Lib.hid ((Blk.new w 46 _).keep b1)
  have B1 := Lib.hid (bthen (alloc_below _ _) b1)
  clear b1
  obtain ⟨c0, c1, c2, c3, c4, c5, c6, c7, c8, c9, c10, c11, f0, f1, f2, f3, f4, f5, f6, f7, f8, f9, f10, f11⟩ := blk12 K1.out
  go_wp2
  exact bodyPost_ret (v := .agg #[.int .i64 65536, .int .i64 0, .int .i64 0, .int .i64 0, .int .i64 0, .int .i64 65536, .int .i64 0, .int .i64 0, .int .i64 0, .int .i64 0, .int .i64 65536, .int .i64 0]) (by simp [results, Tryz.results60, go_sem, c0, c1, c2, c3, c4, c5, c6, c7, c8, c9, c10, c11]) rfl ⟨rfl, bset12 B1.out (by omega)⟩

set_option maxHeartbeats 1000000 in
theorem rmove_xyz (x y z : Int) (w : World) :
    Calls Tryz.prog 27 #[.agg #[.int .i64 x, .int .i64 y, .int .i64 z]] w fun e w' => e = .returned (.agg #[.int .i64 65536, .int .i64 0, .int .i64 0, .int .i64 x, .int .i64 0, .int .i64 65536, .int .i64 0, .int .i64 y, .int .i64 0, .int .i64 0, .int .i64 65536, .int .i64 z]) ∧ Below w.heap.size w w' := by
  go_enter Tryz.func27, Tryz.ntmps27
  go_wp2_with fail
  refine (rsame_any _).mono ?_
  rintro e w1 ⟨rfl, b1⟩
  have K1 := Lib.hid (blkAt ((Blk.new (w.alloc _) 46 _).keep b1) (g' := w.heap.size + 1) (by simp))
  have L1 := Lib.hid (((Blk.new w 48 _).alloc _).keep b1)
  have B1 := Lib.hid (bthen (balloc (alloc_below _ _) _) b1)
  clear b1
  obtain ⟨d0, d1, d2, _, _, _⟩ := blk3 L1.out
  have z2 := L1.out.lt
  go_wp2
  refine wp_loop_rounds 4 ?_
  rw [rounds_succ]
  go_wp2
  rw [rounds_succ]
  go_wp2
  rw [rounds_succ]
  go_wp2
  rw [rounds_succ]
  clear d0 d1 d2 z2
  refine fin (fun W => Blk W (w.heap.size + 1) 46 #[.int .i64 0, .int .i64 0, .int .i64 0, .int .i64 0, .int .i64 0, .int .i64 0, .int .i64 0, .int .i64 0, .int .i64 0, .int .i64 0, .int .i64 0, .int .i64 0] ∧ Blk W w1.heap.size 46 #[.int .i64 65536, .int .i64 0, .int .i64 0, .int .i64 x, .int .i64 0, .int .i64 65536, .int .i64 0, .int .i64 y, .int .i64 0, .int .i64 0, .int .i64 65536, .int .i64 z] ∧ Below w.heap.size w W) ⟨K1.out.alloc _, Blk.new w1 _ _, balloc B1.out _⟩ ?_
  rintro W ⟨hk, hm, hb⟩
  have HB := Lib.hid hb
  clear hb
  obtain ⟨c0, c1, c2, c3, c4, c5, c6, c7, c8, c9, c10, c11, f0, f1, f2, f3, f4, f5, f6, f7, f8, f9, f10, f11⟩ := blk12 hk
  obtain ⟨d0, d1, d2, d3, d4, d5, d6, d7, d8, d9, d10, d11, _, _, _, _, _, _, _, _, _, _, _, _⟩ := blk12 hm
  go_wp2
  exact bodyPost_ret (v := .agg #[.int .i64 65536, .int .i64 0, .int .i64 0, .int .i64 x, .int .i64 0, .int .i64 65536, .int .i64 0, .int .i64 y, .int .i64 0, .int .i64 0, .int .i64 65536, .int .i64 z]) (by simp [results, Tryz.results27, go_sem, c0, c1, c2, c3, c4, c5, c6, c7, c8, c9, c10, c11]) rfl ⟨rfl, bset12 HB.out (by omega)⟩

end Go.Proofs.YthhfcedhbfandaaGreat
