/-
  12 texts in one file, each with its own heading.
-/
import Derived.Test.YtcpgkkphibhdfaaGreatMVec
import Derived.Test.YtcpgkkphibhdfaaGreatMAff
/-
  Boxes and planes as functions of the place (a box: Min at 0 to 2, Max at 3 to 5; a plane: N at 0 to 2, D at 3); whether they may be, and whether a vector is in a box, by the reference of layer 4.
-/
namespace Go.Proofs.YtcpgkkphibhdfaaGreat
open Go.RowKit

theorem lt6 {k : Nat} (hk : k < 6) : k = 0 ∨ k = 1 ∨ k = 2 ∨ k = 3 ∨ k = 4 ∨ k = 5 := by omega
theorem Blk.at6 {w : World} {g : Nat} {t : TypeId} {B : Nat → Int} (h : Blk w g t #[.int .i64 (B 0), .int .i64 (B 1), .int .i64 (B 2), .int .i64 (B 3), .int .i64 (B 4), .int .i64 (B 5)]) {k : Nat} (hk : k < 6) : w.cell? ⟨g, k, none⟩ = some (.int .i64 (B k)) := by
  rcases lt6 hk with rfl | rfl | rfl | rfl | rfl | rfl
  · exact h.cell 0
  · exact h.cell 1
  · exact h.cell 2
  · exact h.cell 3
  · exact h.cell 4
  · exact h.cell 5
theorem Blk.atv {w : World} {g : Nat} {t : TypeId} {V : Nat → Int} (h : Blk w g t #[.int .i64 (V 0), .int .i64 (V 1), .int .i64 (V 2)]) {k : Nat} (hk : k < 3) : w.cell? ⟨g, k, none⟩ = some (.int .i64 (V k)) := by
  obtain rfl | rfl | rfl : k = 0 ∨ k = 1 ∨ k = 2 := by omega
  · exact h.cell 0
  · exact h.cell 1
  · exact h.cell 2
/-- may a box be, by its first k places -/
def boxTo (B : Nat → Int) : Nat → Bool
  | 0 => rightV [(B 0, B 1, B 2), (B 3, B 4, B 5)]
  | k + 1 => boxTo B k && decide (B k ≤ B (3 + k))
def okBox (B : Nat → Int) : Bool := boxTo B 3
def okPlane (P : Nat → Int) : Bool := rightB [P 0, P 1, P 2, P 3]
/-- is a vector in a box at a place -/
def inAt (B V : Nat → Int) (k : Nat) : Bool := !(decide (V k < B k)) && !(decide (B (3 + k) < V k))
def inBox (B V : Nat → Int) : Bool := inAt B V 0 && inAt B V 1 && inAt B V 2

set_option maxHeartbeats 1000000 in
theorem rbox_any (B : Nat → Int) (w : World) :
    Calls Tryz.prog 98 #[.agg #[.int .i64 (B 0), .int .i64 (B 1), .int .i64 (B 2), .int .i64 (B 3), .int .i64 (B 4), .int .i64 (B 5)]] w fun e w' => e = .returned (.bool (okBox B)) ∧ Below w.heap.size w w' := by
  go_enter Tryz.func98, Tryz.ntmps98
  go_wp2_with fail
  refine (rvright_any _ _ _ [(B 0, B 1, B 2), (B 3, B 4, B 5)] _ (vrow2 (blkAt (Blk.new _ _ _) (by simp)))).mono ?_
  rintro e w1 ⟨rfl, b1⟩
  have KB := Lib.hid (((Blk.new w 42 _).alloc _).keep b1)
  have HB := Lib.hid (bthen (balloc (alloc_below _ _) _) b1)
  clear b1
  go_wp2
  go_loopw [3, 4] (fun r i wr => ∃ k : Nat, k ≤ 3 ∧ i = .int .i64 k ∧ r = .bool (boxTo B k) ∧ Blk wr w.heap.size 42 #[.int .i64 (B 0), .int .i64 (B 1), .int .i64 (B 2), .int .i64 (B 3), .int .i64 (B 4), .int .i64 (B 5)] ∧ Below w.heap.size w wr) (fun _ i _ => 3 - (intOf i).toNat)
  case atStart => exact ⟨0, by omega, rfl, rfl, KB.out, HB.out⟩
  case round =>
    clear KB HB
    obtain ⟨k, hk, rfl, rfl, hkb, hb⟩ := hrel
    have KB := Lib.hid hkb
    have HB := Lib.hid hb
    clear hkb hb
    by_cases hlt : k < 3
    · have cx := KB.out.at6 (k := k) (by omega)
      have cy := KB.out.at6 (k := 3 + k) (by omega)
      have HS : Hid (boxTo B (k + 1) = (boxTo B k && decide (B k ≤ B (3 + k)))) := Lib.hid rfl
      obtain ⟨x, hx⟩ : ∃ x, x = B k := ⟨_, rfl⟩
      obtain ⟨y, hy⟩ : ∃ y, y = B (3 + k) := ⟨_, rfl⟩
      obtain ⟨s, hs⟩ : ∃ s, s = boxTo B k := ⟨_, rfl⟩
      rw [← hx] at cx
      rw [← hy] at cy
      rw [← hx, ← hy, ← hs] at HS
      rw [← hs]
      clear hx hy hs
      have hk0 : (0 : Int) ≤ (k : Int) := by omega
      have hk3 : (k : Int) < 3 := by omega
      cases s
      · go_wp2
        go_quiet (fail)
        go_wp2
        go_roundw
        case rel => exact ⟨k + 1, by omega, by go_num, by rw [HS.out]; rfl, KB.out.drewN nq, Go.below_drewN HB.out nq⟩
        case measure => simp [intOf] <;> omega
      · go_wp2
        go_quiet (fail)
        go_wp2
        go_roundw
        case rel => exact ⟨k + 1, by omega, by go_num, by rw [HS.out]; rfl, KB.out.drewN nq, Go.below_drewN HB.out nq⟩
        case measure => simp [intOf] <;> omega
    · obtain rfl : k = 3 := by omega
      go_wp2
      go_ret
      exact ⟨rfl, HB.out⟩

theorem row4 {w : World} {g : Nat} {t : TypeId} {P : Nat → Int} (h : Blk w g t #[.int .i64 (P 0), .int .i64 (P 1), .int .i64 (P 2), .int .i64 (P 3)]) : Row w (some ⟨g, 0, none⟩) 4 [P 0, P 1, P 2, P 3] := by
  refine ⟨rfl, by omega, Or.inr ⟨_, _, rfl, fun i hi => ?_⟩⟩
  obtain rfl | rfl | rfl | rfl : i = 0 ∨ i = 1 ∨ i = 2 ∨ i = 3 := by omega
  · exact h.cell 0
  · exact h.cell 1
  · exact h.cell 2
  · exact h.cell 3

end Go.Proofs.YtcpgkkphibhdfaaGreat
/-
  What the reference's ends of layer 4 answers: the least and the greatest sum of a row's numbers with a box's.
-/
namespace Go.Proofs.YtcpgkkphibhdfaaGreat
open Go.RowKit

/-- two lists that the call appends to lie in blocks of their own -/
def Apart (v u : Value) : Prop := ∀ k, v.ownBlock = some k → u.ownBlock ≠ some k
theorem Apart.symm {v u : Value} (h : Apart v u) : Apart u v := fun k h1 h2 => h k h2 h1
theorem own_lt {w : World} {base : Nat} {v : Value} {n : Nat} {zs : List Int} (h : Owns w base v n zs) : ∀ k, v.ownBlock = some k → k < w.heap.size := fun k hk => by
  rcases h.2 with ⟨rfl, _⟩ | ⟨g, cap, cur, rfl, _, hh, _⟩
  · cases hk
  · obtain rfl : g = k := by simpa [Value.ownBlock] using hk
    exact (Array.getElem?_eq_some_iff.1 hh).1
theorem own_other {w w' : World} {base : Nat} {v u : Value} {n : Nat} {zs : List Int} (h : Owns w base u n zs) (hg : w.grownBy w' v.ownBlock) (ha : Apart v u) : Owns w' base u n zs := by
  have hl := own_lt h
  refine ⟨h.1, ?_⟩
  rcases h.2 with h0 | ⟨g, cap, cur, e, hb, hh, r⟩
  · exact .inl h0
  · refine .inr ⟨g, cap, cur, e, hb, ?_, r⟩
    have hgk : u.ownBlock = some g := by rw [e]; rfl
    rw [hg.block g (hl g hgk) (fun c => ha g c.symm hgk)]
    exact hh
/-- behind an append of the first one -/
theorem apart_next {w : World} {base : Nat} {v v' u : Value} {n : Nat} {zs : List Int} {S : Nat} (h : Owns w base u n zs) (ha : Apart v u) (hv : v'.ownBlock = v.ownBlock ∨ v'.ownBlock = some S) (hS : w.heap.size ≤ S) : Apart v' u := fun k h1 h2 => by
  rcases hv with e | e
  · exact ha k (by rw [← e]; exact h1) h2
  · have := own_lt h k h2
    rw [e] at h1
    simp at h1
    omega

def enX (N B : Nat → Int) (k : Nat) : Int := mulV (N k) (B k)
def enY (N B : Nat → Int) (k : Nat) : Int := mulV (N k) (B (3 + k))
def enBad (N B : Nat → Int) (k : Nat) : Bool := (mulE (N k) (B k) != 0) || (mulE (N k) (B (3 + k)) != 0)
def enLoL (N B : Nat → Int) (t : Int) : List Int := [t, min (enX N B 0) (enY N B 0), min (enX N B 1) (enY N B 1), min (enX N B 2) (enY N B 2)]
def enHiL (N B : Nat → Int) (t : Int) : List Int := [t, max (enX N B 0) (enY N B 0), max (enX N B 1) (enY N B 1), max (enX N B 2) (enY N B 2)]
def enE (N B : Nat → Int) (t : Int) : Int := if enBad N B 0 || enBad N B 1 || enBad N B 2 then 6 else if (addE (enLoL N B t) != 0) || (addE (enHiL N B t) != 0) then 6 else 0
def enLo (N B : Nat → Int) (t : Int) : Int := gate (enE N B t) (addV (enLoL N B t))
def enHi (N B : Nat → Int) (t : Int) : Int := gate (enE N B t) (addV (enHiL N B t))

theorem en_no {N B : Nat → Int} {t : Int} (h : enE N B t = 6) : enLo N B t = 0 ∧ enHi N B t = 0 := by unfold enLo enHi; rw [h]; exact ⟨rfl, rfl⟩
theorem enE_bad {N B : Nat → Int} {t : Int} {k : Nat} (h : enBad N B k = true) (hk : k < 3) : enE N B t = 6 := by
  unfold enE
  obtain rfl | rfl | rfl : k = 0 ∨ k = 1 ∨ k = 2 := by omega
  · rw [if_pos (by rw [h]; rfl)]
  · rw [if_pos (by rw [h, Bool.or_true]; rfl)]
  · rw [if_pos (by rw [h, Bool.or_true])]
theorem en_bad {N B : Nat → Int} {t : Int} {k : Nat} (h : enBad N B k = true) (hk : k < 3) : Ending.returned (.tuple #[.int .i64 0, .int .i64 0, .int .i64 6]) = .returned (.tuple #[.int .i64 (enLo N B t), .int .i64 (enHi N B t), .int .i64 (enE N B t)]) := by
  have e := enE_bad (t := t) h hk
  rw [(en_no e).1, (en_no e).2, e]
theorem enLo_take (N B : Nat → Int) (t : Int) {k : Nat} (hk : k < 3) : (enLoL N B t).take (k + 1 + 1) = (enLoL N B t).take (k + 1) ++ [min (enX N B k) (enY N B k)] := by
  obtain rfl | rfl | rfl : k = 0 ∨ k = 1 ∨ k = 2 := by omega
  · rfl
  · rfl
  · rfl
theorem enHi_take (N B : Nat → Int) (t : Int) {k : Nat} (hk : k < 3) : (enHiL N B t).take (k + 1 + 1) = (enHiL N B t).take (k + 1) ++ [max (enX N B k) (enY N B k)] := by
  obtain rfl | rfl | rfl : k = 0 ∨ k = 1 ∨ k = 2 := by omega
  · rfl
  · rfl
  · rfl
theorem owns_first (w : World) (base : Nat) (x : Int) (hb : base ≤ w.heap.size) (N : Nat) (hN : w.heap.size = N) : Owns (w.alloc (.cells #[.int .i64 x] 36)) base (.slice (some ⟨N, 0, none⟩) 1 1) 1 [x] := by
  subst hN
  exact World.ownsRow_lit w #[.int .i64 x] 1 hb (by unfold maxLen; omega) rfl
theorem own_alloc {w : World} {base : Nat} {v : Value} {n : Nat} {zs : List Int} (h : Owns w base v n zs) (o : Obj) : Owns (w.alloc o) base v n zs := own_keep h (alloc_below w o)

end Go.Proofs.YtcpgkkphibhdfaaGreat
/-
  What the reference's Distance and Span of layer 4 answer.
-/
namespace Go.Proofs.YtcpgkkphibhdfaaGreat
open Go.RowKit

def dsE0 (P V : Nat → Int) : Int := dotE (P 0) (P 1) (P 2) (V 0) (V 1) (V 2)
def dsV0 (P V : Nat → Int) : Int := dotV (P 0) (P 1) (P 2) (V 0) (V 1) (V 2)
def disOk (P V : Nat → Int) : Bool := okPlane P && ok3 (V 0) (V 1) (V 2)
def disE (P V : Nat → Int) : Int := if disOk P V then (if dsE0 P V = 0 then addE [dsV0 P V, P 3] else dsE0 P V) else 1
def disV (P V : Nat → Int) : Int := if disOk P V then (if dsE0 P V = 0 then addV [dsV0 P V, P 3] else 0) else 0
def spnOk (P B : Nat → Int) : Bool := okPlane P && okBox B
def spnE (P B : Nat → Int) : Int := if spnOk P B then enE P B (P 3) else 1
def spnLo (P B : Nat → Int) : Int := if spnOk P B then enLo P B (P 3) else 0
def spnHi (P B : Nat → Int) : Int := if spnOk P B then enHi P B (P 3) else 0

theorem blk4 {w : World} {g : Nat} {t : TypeId} {x0 x1 x2 x3 : Value} (h : Blk w g t #[x0, x1, x2, x3]) : w.cell? ⟨g, 0, none⟩ = some x0 ∧ w.cell? ⟨g, 1, none⟩ = some x1 ∧ w.cell? ⟨g, 2, none⟩ = some x2 ∧ w.cell? ⟨g, 3, none⟩ = some x3 := ⟨h.cell 0, h.cell 1, h.cell 2, h.cell 3⟩
theorem blk6 {w : World} {g : Nat} {t : TypeId} {x0 x1 x2 x3 x4 x5 : Value} (h : Blk w g t #[x0, x1, x2, x3, x4, x5]) : w.cell? ⟨g, 0, none⟩ = some x0 ∧ w.cell? ⟨g, 1, none⟩ = some x1 ∧ w.cell? ⟨g, 2, none⟩ = some x2 ∧ w.cell? ⟨g, 3, none⟩ = some x3 ∧ w.cell? ⟨g, 4, none⟩ = some x4 ∧ w.cell? ⟨g, 5, none⟩ = some x5 ∧
    w.frozen? ⟨g, 0, none⟩ = false ∧ w.frozen? ⟨g, 1, none⟩ = false ∧ w.frozen? ⟨g, 2, none⟩ = false ∧ w.frozen? ⟨g, 3, none⟩ = false ∧ w.frozen? ⟨g, 4, none⟩ = false ∧ w.frozen? ⟨g, 5, none⟩ = false :=
  ⟨h.cell 0, h.cell 1, h.cell 2, h.cell 3, h.cell 4, h.cell 5, h.frozen 0, h.frozen 1, h.frozen 2, h.frozen 3, h.frozen 4, h.frozen 5⟩
theorem rbox_b {B : Nat → Int} {b : Bool} (h : okBox B = b) (w : World) :
    Calls Tryz.prog 98 #[.agg #[.int .i64 (B 0), .int .i64 (B 1), .int .i64 (B 2), .int .i64 (B 3), .int .i64 (B 4), .int .i64 (B 5)]] w fun e w' => e = .returned (.bool b) ∧ Below w.heap.size w w' := (rbox_any B w).mono fun _ _ ⟨he, hw⟩ => ⟨by rw [he, h], hw⟩
theorem rone_b {V : Nat → Int} {b : Bool} (h : ok3 (V 0) (V 1) (V 2) = b) (w : World) :
    Calls Tryz.prog 164 #[.agg #[.int .i64 (V 0), .int .i64 (V 1), .int .i64 (V 2)]] w fun e w' => e = .returned (.bool b) ∧ Below w.heap.size w w' := (rone_any (V 0) (V 1) (V 2) w).mono fun _ _ ⟨he, hw⟩ => ⟨by rw [he, h], hw⟩

end Go.Proofs.YtcpgkkphibhdfaaGreat
/-
  What the reference's Carry of layer 4 answers.
-/
namespace Go.Proofs.YtcpgkkphibhdfaaGreat
open Go.RowKit

/-- a row's first numbers, and what comes out of a row -/
def rowM (M : Nat → Int) (r k : Nat) : Int := M (4 * r + k)
def caLo (M B : Nat → Int) (r : Nat) : Int := enLo (rowM M r) B (M (4 * r + 3))
def caHi (M B : Nat → Int) (r : Nat) : Int := enHi (rowM M r) B (M (4 * r + 3))
def caE (M B : Nat → Int) (r : Nat) : Int := enE (rowM M r) B (M (4 * r + 3))
/-- a box's places, row by row -/
def caK (M B : Nat → Int) (k : Nat) : Int := if k < 3 then caLo M B k else caHi M B (k - 3)
def carOk (M B : Nat → Int) : Bool := okM M && okBox B
def carE (M B : Nat → Int) : Int := if carOk M B then first3 (caE M B 0) (caE M B 1) (caE M B 2) else 1
def carV (M B : Nat → Int) (k : Nat) : Int := gate (carE M B) (caK M B k)
theorem carE_yes {M B : Nat → Int} (h : okM M = true) (h' : okBox B = true) : carE M B = first3 (caE M B 0) (caE M B 1) (caE M B 2) := by unfold carE carOk; rw [h, h']; rfl
theorem carE_no {M B : Nat → Int} (h : carOk M B = false) : carE M B = 1 := by unfold carE; rw [h]; rfl
theorem carV_no {M B : Nat → Int} (h : carOk M B = false) (k : Nat) : carV M B k = 0 := by unfold carV; rw [carE_no h]; rfl
theorem carV_of {M B : Nat → Int} {e : Int} (h : carE M B = e) (k : Nat) : carV M B k = gate e (caK M B k) := by unfold carV; rw [h]

theorem bset6 {w a : World} {g : Nat} {u0 u1 u2 u3 u4 u5 : Value} (h : Below w.heap.size w a) (hg : w.heap.size ≤ g) : Below w.heap.size w ((((((a.setCell ⟨g, 0, none⟩ u0).setCell ⟨g, 1, none⟩ u1).setCell ⟨g, 2, none⟩ u2).setCell ⟨g, 3, none⟩ u3).setCell ⟨g, 4, none⟩ u4).setCell ⟨g, 5, none⟩ u5) :=
  (((((h.setCell hg _).setCell hg _).setCell hg _).setCell hg _).setCell hg _).setCell hg _
/-- the rows laid so far, Min's and Max's -/
def rowsTo (f : Nat → Int) (r j : Nat) : Value := if j % 3 < r then .int .i64 (f j) else .int .i64 0
theorem rows_start (w : World) (t : TypeId) (f : Nat → Int) : (w.alloc (.cells #[.int .i64 0, .int .i64 0, .int .i64 0, .int .i64 0, .int .i64 0, .int .i64 0] t)).rowIs w.heap.size t 6 (rowsTo f 0) := by
  refine (World.rowIs_alloc w _ t (rowsTo f 0) (fun i hi => ?_))
  rcases lt6 (k := i) (by simpa using hi) with rfl | rfl | rfl | rfl | rfl | rfl <;> rfl
theorem rows_step (f : Nat → Int) {r j : Nat} (hr : r < 3) (hj : j < 6) : (if j = 3 + r then Value.int .i64 (f (3 + r)) else if j = r then .int .i64 (f r) else rowsTo f r j) = rowsTo f (r + 1) j := by
  unfold rowsTo
  by_cases e1 : j = 3 + r
  · rw [if_pos e1, if_pos (by omega), e1]
  · rw [if_neg e1]
    by_cases e2 : j = r
    · rw [if_pos e2, if_pos (by omega), e2]
    · rw [if_neg e2]
      by_cases e3 : j % 3 < r
      · rw [if_pos e3, if_pos (by omega)]
      · rw [if_neg e3, if_neg (by omega)]

def r3 (x y z : Int) (j : Nat) : Int := [x, y, z].getD j 0
theorem rmright_c {M : Nat → Int} {b : Bool} (h : okM M = b) (w : World) :
    Calls Tryz.prog 97 #[.agg #[.int .i64 (M 0), .int .i64 (M 1), .int .i64 (M 2), .int .i64 (M 3), .int .i64 (M 4), .int .i64 (M 5), .int .i64 (M 6), .int .i64 (M 7), .int .i64 (M 8), .int .i64 (M 9), .int .i64 (M 10), .int .i64 (M 11)]] w fun e w' => e = .returned (.bool b) ∧ Below w.heap.size w w' := (rmright_any M w).mono fun _ _ ⟨he, hw⟩ => ⟨by rw [he, h], hw⟩

end Go.Proofs.YtcpgkkphibhdfaaGreat
/-
  Slices of boxes as lists; what the reference's Join of layer 4 answers.
-/
namespace Go.Proofs.YtcpgkkphibhdfaaGreat
open Go.ChangeShapes Go.WideShapes Go.ChangeAt Go.RowKit Go.Deep

/-! vectors that the call itself appends -/
def flatV (vs : List V3) : List Value := vs.flatMap fun v => [.int .i64 v.1, .int .i64 v.2.1, .int .i64 v.2.2]
theorem flatV_len (vs : List V3) : (flatV vs).length = vs.length * 3 := by
  induction vs with
  | nil => rfl
  | cons v r ih => unfold flatV at ih ⊢; simp [ih]; omega
theorem flatV_snoc (vs : List V3) (x y z : Int) : flatV (vs ++ [(x, y, z)]) = flatV vs ++ [.int .i64 x, .int .i64 y, .int .i64 z] := by unfold flatV; simp
theorem flatV_at : ∀ (vs : List V3) (i : Nat), i < vs.length → (flatV vs)[i * 3]? = some (.int .i64 (vs.getD i zeroV).1) ∧ (flatV vs)[i * 3 + 1]? = some (.int .i64 (vs.getD i zeroV).2.1) ∧ (flatV vs)[i * 3 + 2]? = some (.int .i64 (vs.getD i zeroV).2.2)
  | [], i, h => by simp at h
  | v :: r, 0, _ => by simp [flatV]
  | v :: r, i + 1, h => by
    have ih := flatV_at r i (by simpa using h)
    have e : flatV (v :: r) = [.int .i64 v.1, .int .i64 v.2.1, .int .i64 v.2.2] ++ flatV r := by simp [flatV]
    rw [e]
    have g : ∀ j, ([Value.int .i64 v.1, .int .i64 v.2.1, .int .i64 v.2.2] ++ flatV r)[(i + 1) * 3 + j]? = (flatV r)[i * 3 + j]? := fun j => by
      rw [List.getElem?_append_right (by simp; omega)]
      congr 1
      simp
      omega
    have g0 := g 0
    simp only [Nat.add_zero] at g0
    rw [g0, g 1, g 2]
    simpa using ih

def OwnV (w : World) (base : Nat) (v : Value) (n : Nat) (vs : List V3) : Prop := w.ownsRow base 40 3 v n (flatV vs)
theorem vecF_info : (Tryz.prog.info? 40).map (fun i => (i.zero, i.size, i.bytes)) = some (some (.agg #[.int .i64 0, .int .i64 0, .int .i64 0]), 3, 24) := by kernel_rfl
theorem OwnV.row {w : World} {base : Nat} {v : Value} {n : Nat} {vs : List V3} (h : OwnV w base v n vs) : ∃ a cap, v = .slice a n cap ∧ VRow w a n vs := by
  have hl : vs.length = n := by have := h.1; rw [flatV_len] at this; omega
  rcases h.2 with ⟨rfl, rfl⟩ | ⟨g, cap, cur, rfl, hb, hh, hnc, hm, hs, ht⟩
  · exact ⟨none, 0, rfl, hl, by omega, Or.inl rfl⟩
  · unfold maxLen at hm
    refine ⟨_, cap, rfl, hl, by omega, Or.inr ⟨g, 0, rfl, fun i hi => ?_⟩⟩
    obtain ⟨f0, f1, f2⟩ := flatV_at vs i (by omega)
    rw [Nat.zero_add]
    exact ⟨(World.ownsRow.cellAt h _ (by omega)).trans f0, (World.ownsRow.cellAt h _ (by omega)).trans f1, (World.ownsRow.cellAt h _ (by omega)).trans f2⟩
theorem grown_belowV {w0 wr w' : World} {base B : Nat} {v : Value} {n : Nat} {vs : List V3} {o : Obj} (ho : OwnV wr base v n vs) (hB : B ≤ base) (hb : Below B w0 wr) (hs : B ≤ wr.heap.size) (hg : (wr.alloc o).grownBy w' v.ownBlock) : Below B w0 w' :=
  (hb.alloc hs o).grown hg (by simp; omega) (fun k hk => by have := World.ownsRow.lt ho k hk; omega)
theorem grown_blkV {wr w' : World} {base g : Nat} {v : Value} {n : Nat} {vs : List V3} {o : Obj} (ho : OwnV wr base v n vs) (hB : g < base) (hlt : g < wr.heap.size) (hg : (wr.alloc o).grownBy w' v.ownBlock) : w'.heap[g]? = wr.heap[g]? := by
  rw [hg.block g (by simp; omega) (fun e => by have := World.ownsRow.lt ho g e.symm; omega)]
  exact Below.heap_alloc wr o g hlt
theorem newsV (w : World) (x y z : Value) (t : TypeId) : ∀ j u, [x, y, z][j]? = some u → (w.alloc (.cells #[x, y, z] t)).cell? ((⟨w.heap.size, 0, none⟩ : Addr).add j) = some u := by
  intro j u h
  rw [add_plain, Nat.zero_add, (Blk.new w t #[x, y, z]).cell j]
  simpa using h

theorem ownV_lt_ {w : World} {base : Nat} {v : Value} {n : Nat} {vs : List V3} (h : OwnV w base v n vs) : ∀ k, v.ownBlock = some k → k < w.heap.size := fun k hk => (World.ownsRow.lt h k hk).2
theorem ownV_other {w w' : World} {base : Nat} {v u : Value} {n : Nat} {vs : List V3} (h : OwnV w base u n vs) (hg : w.grownBy w' v.ownBlock) (ha : Apart v u) : OwnV w' base u n vs := by
  have hl := ownV_lt_ h
  refine ⟨h.1, ?_⟩
  rcases h.2 with h0 | ⟨g, cap, cur, e, hb, hh, r⟩
  · exact .inl h0
  · refine .inr ⟨g, cap, cur, e, hb, ?_, r⟩
    have hgk : u.ownBlock = some g := by rw [e]; rfl
    rw [hg.block g (hl g hgk) (fun c => ha g c.symm hgk)]
    exact hh
theorem ownV_keep {wr w2 : World} {base : Nat} {v : Value} {n : Nat} {vs : List V3} (h : OwnV wr base v n vs) (hb : Below wr.heap.size wr w2) : OwnV w2 base v n vs := by
  have hl := ownV_lt_ h
  refine ⟨h.1, ?_⟩
  rcases h.2 with h0 | ⟨g, cap, cur, e, hbs, hh, r⟩
  · exact .inl h0
  · refine .inr ⟨g, cap, cur, e, hbs, ?_, r⟩
    rw [hb.block g (hl g (by rw [e]; rfl))]
    exact hh
theorem apartV_next {w : World} {base : Nat} {v v' u : Value} {n : Nat} {vs : List V3} {S : Nat} (h : OwnV w base u n vs) (ha : Apart v u) (hv : v'.ownBlock = v.ownBlock ∨ v'.ownBlock = some S) (hS : w.heap.size ≤ S) : Apart v' u := fun k h1 h2 => by
  rcases hv with e | e
  · exact ha k (by rw [← e]; exact h1) h2
  · have := ownV_lt_ h k h2
    rw [e] at h1
    simp at h1
    omega

def zeroB : Nat → Int := fun _ => 0
/-- a slice of boxes whose elements are 'Bs' -/
def BRow (w : World) (a : Option Addr) (len : Nat) (Bs : List (Nat → Int)) : Prop :=
  Bs.length = len ∧ len ≤ 9223372036854775807 ∧ (len = 0 ∨ ∃ b off, a = some ⟨b, off, none⟩ ∧ ∀ i, i < len → ∀ j, j < 6 → w.cell? ⟨b, off + i * 6 + j, none⟩ = some (.int .i64 (Bs.getD i zeroB j)))
theorem brow_keep {w w' : World} {a : Option Addr} {len : Nat} {Bs : List (Nat → Int)} (h : BRow w a len Bs) (hb : Below w.heap.size w w') : BRow w' a len Bs := by
  obtain ⟨h1, h2, h3⟩ := h
  refine ⟨h1, h2, ?_⟩
  rcases h3 with h3 | ⟨b, off, e, hc⟩
  · exact Or.inl h3
  · exact Or.inr ⟨b, off, e, fun i hi j hj => cell_keep (hc i hi j hj) hb⟩
theorem BRow.at_ {w : World} {a : Option Addr} {len k : Nat} {Bs : List (Nat → Int)} (h : BRow w a len Bs) (hk : k < len) :
    ∃ b off B, a = some ⟨b, off, none⟩ ∧ Bs[k]? = some B ∧ w.cell? ⟨b, off + k * 6, none⟩ = some (.int .i64 (B 0)) ∧ w.cell? ⟨b, off + k * 6 + 1, none⟩ = some (.int .i64 (B 1)) ∧ w.cell? ⟨b, off + k * 6 + 2, none⟩ = some (.int .i64 (B 2)) ∧ w.cell? ⟨b, off + k * 6 + 3, none⟩ = some (.int .i64 (B 3)) ∧ w.cell? ⟨b, off + k * 6 + 4, none⟩ = some (.int .i64 (B 4)) ∧ w.cell? ⟨b, off + k * 6 + 5, none⟩ = some (.int .i64 (B 5)) := by
  obtain ⟨h1, h2, h3⟩ := h
  rcases h3 with h3 | ⟨b, off, rfl, hc⟩
  · omega
  · have hk' : k < Bs.length := by omega
    have e : Bs.getD k zeroB = Bs[k] := by simp [List.getD, List.getElem?_eq_getElem hk']
    have c := hc k hk
    rw [e] at c
    exact ⟨b, off, _, rfl, List.getElem?_eq_getElem hk', c 0 (by omega), c 1 (by omega), c 2 (by omega), c 3 (by omega), c 4 (by omega), c 5 (by omega)⟩
def rightBx (Bs : List (Nat → Int)) : Bool := Bs.all okBox
def mins (Bs : List (Nat → Int)) : List V3 := Bs.map fun B => (B 0, B 1, B 2)
def maxs (Bs : List (Nat → Int)) : List V3 := Bs.map fun B => (B 3, B 4, B 5)
def joinOk (Bs : List (Nat → Int)) : Bool := rightBx Bs && !Bs.isEmpty
def joinK (Bs : List (Nat → Int)) (k : Nat) : Int := if k < 3 then compK k (pk lessB (mins Bs)) else compK (k - 3) (pk moreB (maxs Bs))
def joinE (Bs : List (Nat → Int)) : Int := if joinOk Bs then 0 else 1
def joinV (Bs : List (Nat → Int)) (k : Nat) : Int := gate (joinE Bs) (joinK Bs k)
theorem rightBx_bad {Bs : List (Nat → Int)} {k : Nat} {B : Nat → Int} (h : Bs[k]? = some B) (ho : okBox B = false) : rightBx Bs = false := by
  unfold rightBx
  rw [List.all_eq_false]
  exact ⟨B, List.mem_of_getElem? h, by simpa using ho⟩
theorem rightBx_succ {Bs : List (Nat → Int)} {k : Nat} {B : Nat → Int} (h : Bs[k]? = some B) (hr : rightBx (Bs.take k) = true) (ho : okBox B = true) : rightBx (Bs.take (k + 1)) = true := by
  unfold rightBx at hr ⊢
  rw [List.take_add_one, List.all_append, hr, h]
  simpa using ho
theorem mins_snoc {Bs : List (Nat → Int)} {k : Nat} {B : Nat → Int} (h : Bs[k]? = some B) : mins (Bs.take (k + 1)) = mins (Bs.take k) ++ [(B 0, B 1, B 2)] := by
  unfold mins; rw [List.take_add_one, h, List.map_append]; rfl
theorem maxs_snoc {Bs : List (Nat → Int)} {k : Nat} {B : Nat → Int} (h : Bs[k]? = some B) : maxs (Bs.take (k + 1)) = maxs (Bs.take k) ++ [(B 3, B 4, B 5)] := by
  unfold maxs; rw [List.take_add_one, h, List.map_append]; rfl
theorem join_no {Bs : List (Nat → Int)} (h : joinOk Bs = false) : joinE Bs = 1 ∧ ∀ k, joinV Bs k = 0 := by
  have e : joinE Bs = 1 := by unfold joinE; rw [h]; rfl
  exact ⟨e, fun k => by unfold joinV; rw [e]; rfl⟩
theorem join_yes {Bs : List (Nat → Int)} (h : joinOk Bs = true) : joinE Bs = 0 ∧ ∀ k, joinV Bs k = joinK Bs k := by
  have e : joinE Bs = 0 := by unfold joinE; rw [if_pos h]
  exact ⟨e, fun k => by unfold joinV; rw [e]; rfl⟩
end Go.Proofs.YtcpgkkphibhdfaaGreat
/-
  Inside, as plain arithmetic: what lies between two numbers, its product lies between theirs; so with sums, with boxes carried, spans and joins.
-/
namespace Go.Proofs.YtcpgkkphibhdfaaGreat
open Go.RowKit

theorem mul_parts {n x : Int} (h : mulE n x = 0) : okB n = true ∧ okB x = true ∧ okB (n * x / 65536) = true ∧ mulV n x = n * x / 65536 := by
  by_cases ho : (okB n && okB x) = true
  · have h4 : okB n = true ∧ okB x = true := by simpa using ho
    rw [(mul_yes ho).2] at h
    unfold fitE at h
    by_cases hk : okB (n * x / 65536) = true
    · refine ⟨h4.1, h4.2, hk, ?_⟩
      rw [(mul_yes ho).1]
      unfold fitV
      rw [if_pos hk]
    · rw [if_neg hk] at h; omega
  · rw [(mul_no (by simpa using ho)).2] at h; omega
theorem mul_of {n x : Int} (hn : okB n = true) (hx : okB x = true) (hk : okB (n * x / 65536) = true) : mulE n x = 0 ∧ mulV n x = n * x / 65536 := by
  have ho : (okB n && okB x) = true := by rw [hn, hx]; rfl
  rw [(mul_yes ho).1, (mul_yes ho).2]
  unfold fitE fitV
  rw [if_pos hk, if_pos hk]
  exact ⟨rfl, rfl⟩
theorem okB_mid {x v y : Int} (hx : okB x = true) (hy : okB y = true) (h1 : x ≤ v) (h2 : v ≤ y) : okB v = true := by
  obtain ⟨a, _⟩ := okB_iff.1 hx
  obtain ⟨_, b⟩ := okB_iff.1 hy
  exact okB_yes (by omega) (by omega)
theorem mul_mid {n x v y : Int} (h1 : x ≤ v) (h2 : v ≤ y) (e1 : mulE n x = 0) (e2 : mulE n y = 0) :
    mulE n v = 0 ∧ min (mulV n x) (mulV n y) ≤ mulV n v ∧ mulV n v ≤ max (mulV n x) (mulV n y) := by
  obtain ⟨on, ox, kx, vx⟩ := mul_parts e1
  obtain ⟨_, oy, ky, vy⟩ := mul_parts e2
  have ov := okB_mid ox oy h1 h2
  have hb : min (n * x / 65536) (n * y / 65536) ≤ n * v / 65536 ∧ n * v / 65536 ≤ max (n * x / 65536) (n * y / 65536) := by
    by_cases hn : 0 ≤ n
    · have a := Int.ediv_le_ediv (c := 65536) (by decide) (Int.mul_le_mul_of_nonneg_left h1 hn)
      have b := Int.ediv_le_ediv (c := 65536) (by decide) (Int.mul_le_mul_of_nonneg_left h2 hn)
      omega
    · have a := Int.ediv_le_ediv (c := 65536) (by decide) (Int.mul_le_mul_of_nonpos_left (show n ≤ 0 by omega) h1)
      have b := Int.ediv_le_ediv (c := 65536) (by decide) (Int.mul_le_mul_of_nonpos_left (show n ≤ 0 by omega) h2)
      omega
  have kv : okB (n * v / 65536) = true := by
    obtain ⟨a1, a2⟩ := okB_iff.1 kx
    obtain ⟨b1, b2⟩ := okB_iff.1 ky
    exact okB_yes (by omega) (by omega)
  obtain ⟨ev, vv⟩ := mul_of on ov kv
  rw [vx, vy, vv]
  exact ⟨ev, hb⟩
theorem add_parts {zs : List Int} (h : addE zs = 0) : rightB zs = true ∧ okB zs.sum = true ∧ addV zs = zs.sum := by
  by_cases ho : addOk zs = true
  · rw [addE_yes ho] at h
    unfold fitE at h
    by_cases hk : okB zs.sum = true
    · refine ⟨?_, hk, ?_⟩
      · have h4 : decide (zs.length ≤ 1024) = true ∧ rightB zs = true := by simpa [addOk] using ho
        exact h4.2
      · rw [addV_yes ho]; unfold fitV; rw [if_pos hk]
    · rw [if_neg hk] at h; omega
  · rw [addE_no (by simpa using ho)] at h; omega
theorem add_of {zs : List Int} (hl : zs.length ≤ 1024) (hr : rightB zs = true) (hk : okB zs.sum = true) : addE zs = 0 ∧ addV zs = zs.sum := by
  have ho : addOk zs = true := addOk_yes rfl hl hr
  rw [addE_yes ho, addV_yes ho]
  unfold fitE fitV
  rw [if_pos hk, if_pos hk]
  exact ⟨rfl, rfl⟩

theorem inAt_iff {B V : Nat → Int} {k : Nat} : inAt B V k = true ↔ B k ≤ V k ∧ V k ≤ B (3 + k) := by
  unfold inAt
  simp
theorem inBox_iff {B V : Nat → Int} : inBox B V = true ↔ ∀ k, k < 3 → B k ≤ V k ∧ V k ≤ B (3 + k) := by
  unfold inBox
  constructor
  · intro h k hk
    have h3 : (inAt B V 0 = true ∧ inAt B V 1 = true) ∧ inAt B V 2 = true := by simpa using h
    obtain rfl | rfl | rfl : k = 0 ∨ k = 1 ∨ k = 2 := by omega
    · exact inAt_iff.1 h3.1.1
    · exact inAt_iff.1 h3.1.2
    · exact inAt_iff.1 h3.2
  · intro h
    rw [inAt_iff.2 (h 0 (by omega)), inAt_iff.2 (h 1 (by omega)), inAt_iff.2 (h 2 (by omega))]
    rfl
theorem en_parts {N B : Nat → Int} {t : Int} (h : enE N B t = 0) : (∀ k, k < 3 → mulE (N k) (B k) = 0 ∧ mulE (N k) (B (3 + k)) = 0) ∧ addE (enLoL N B t) = 0 ∧ addE (enHiL N B t) = 0 ∧ enLo N B t = addV (enLoL N B t) ∧ enHi N B t = addV (enHiL N B t) := by
  have hv : enLo N B t = addV (enLoL N B t) ∧ enHi N B t = addV (enHiL N B t) := by unfold enLo enHi; rw [h]; exact ⟨rfl, rfl⟩
  unfold enE at h
  by_cases c : (enBad N B 0 || enBad N B 1 || enBad N B 2) = true
  · rw [if_pos c] at h; omega
  · rw [if_neg c] at h
    by_cases d : ((addE (enLoL N B t) != 0) || (addE (enHiL N B t) != 0)) = true
    · rw [if_pos d] at h; omega
    · have c3 : (enBad N B 0 = false ∧ enBad N B 1 = false) ∧ enBad N B 2 = false := by simpa using c
      have d2 : addE (enLoL N B t) = 0 ∧ addE (enHiL N B t) = 0 := by simpa using d
      refine ⟨fun k hk => ?_, d2.1, d2.2, hv.1, hv.2⟩
      have hb : enBad N B k = false := by
        obtain rfl | rfl | rfl : k = 0 ∨ k = 1 ∨ k = 2 := by omega
        · exact c3.1.1
        · exact c3.1.2
        · exact c3.2
      unfold enBad at hb
      simpa using hb
/-- products with what is in a box, and one number more, added: between the ends -/
theorem en_mid {N B V : Nat → Int} {t : Int} (hin : inBox B V = true) (h : enE N B t = 0) :
    (∀ k, k < 3 → mulE (N k) (V k) = 0) ∧ okB (mulV (N 0) (V 0) + mulV (N 1) (V 1) + mulV (N 2) (V 2) + t) = true ∧ rightB [mulV (N 0) (V 0), mulV (N 1) (V 1), mulV (N 2) (V 2), t] = true ∧
    enLo N B t ≤ mulV (N 0) (V 0) + mulV (N 1) (V 1) + mulV (N 2) (V 2) + t ∧ mulV (N 0) (V 0) + mulV (N 1) (V 1) + mulV (N 2) (V 2) + t ≤ enHi N B t := by
  obtain ⟨hm, hl, hh, el, eh⟩ := en_parts h
  have hi := inBox_iff.1 hin
  obtain ⟨m0, a0, b0⟩ := mul_mid (hi 0 (by omega)).1 (hi 0 (by omega)).2 (hm 0 (by omega)).1 (hm 0 (by omega)).2
  obtain ⟨m1, a1, b1⟩ := mul_mid (hi 1 (by omega)).1 (hi 1 (by omega)).2 (hm 1 (by omega)).1 (hm 1 (by omega)).2
  obtain ⟨m2, a2, b2⟩ := mul_mid (hi 2 (by omega)).1 (hi 2 (by omega)).2 (hm 2 (by omega)).1 (hm 2 (by omega)).2
  obtain ⟨rl, kl, vl⟩ := add_parts hl
  obtain ⟨rh, kh, vh⟩ := add_parts hh
  rw [el, eh, vl, vh]
  have sl : (enLoL N B t).sum = t + min (mulV (N 0) (B 0)) (mulV (N 0) (B (3 + 0))) + min (mulV (N 1) (B 1)) (mulV (N 1) (B (3 + 1))) + min (mulV (N 2) (B 2)) (mulV (N 2) (B (3 + 2))) := by
    unfold enLoL enX enY; simp only [List.sum_cons, List.sum_nil]; omega
  have sh : (enHiL N B t).sum = t + max (mulV (N 0) (B 0)) (mulV (N 0) (B (3 + 0))) + max (mulV (N 1) (B 1)) (mulV (N 1) (B (3 + 1))) + max (mulV (N 2) (B 2)) (mulV (N 2) (B (3 + 2))) := by
    unfold enHiL enX enY; simp only [List.sum_cons, List.sum_nil]; omega
  rw [sl] at kl
  rw [sh] at kh
  rw [sl, sh]
  obtain ⟨kl1, kl2⟩ := okB_iff.1 kl
  obtain ⟨kh1, kh2⟩ := okB_iff.1 kh
  have ot : okB t = true := by
    unfold enLoL rightB at rl
    rw [List.all_cons, Bool.and_eq_true] at rl
    exact rl.1
  have p0 := (mul_parts m0).2.2.1
  have p1 := (mul_parts m1).2.2.1
  have p2 := (mul_parts m2).2.2.1
  rw [← (mul_parts m0).2.2.2] at p0
  rw [← (mul_parts m1).2.2.2] at p1
  rw [← (mul_parts m2).2.2.2] at p2
  refine ⟨fun k hk => ?_, okB_yes (by omega) (by omega), ?_, by omega, by omega⟩
  · obtain rfl | rfl | rfl : k = 0 ∨ k = 1 ∨ k = 2 := by omega
    · exact m0
    · exact m1
    · exact m2
  · unfold rightB
    simp [p0, p1, p2, ot]

/-- a row applied to what is in a box -/
theorem al_mid {M B V : Nat → Int} {r : Nat} {t : Int} (hin : inBox B V = true) (h : enE (rowM M r) B t = 0) : alE M r V t = 0 ∧ enLo (rowM M r) B t ≤ alV M r V t ∧ alV M r V t ≤ enHi (rowM M r) B t := by
  obtain ⟨hm, hk, hr, hlo, hhi⟩ := en_mid hin h
  have hf : alF M r V = 0 := by
    unfold alF first3 alPE
    rw [show mulE (M (4 * r + 0)) (V 0) = 0 from hm 0 (by omega), show mulE (M (4 * r + 1)) (V 1) = 0 from hm 1 (by omega), show mulE (M (4 * r + 2)) (V 2) = 0 from hm 2 (by omega)]
    rfl
  have hL : alL M r V t = [mulV (rowM M r 0) (V 0), mulV (rowM M r 1) (V 1), mulV (rowM M r 2) (V 2), t] := rfl
  have hs : (alL M r V t).sum = mulV (rowM M r 0) (V 0) + mulV (rowM M r 1) (V 1) + mulV (rowM M r 2) (V 2) + t := by
    rw [hL]; simp only [List.sum_cons, List.sum_nil]; omega
  obtain ⟨a1, a2⟩ := add_of (zs := alL M r V t) (by rw [hL]; simp) (by rw [hL]; exact hr) (by rw [hs]; exact hk)
  rw [(al_yes t hf).1, (al_yes t hf).2, a1, a2, hs]
  exact ⟨rfl, hlo, hhi⟩
theorem boxTo_parts {B : Nat → Int} (h : okBox B = true) : rightV [(B 0, B 1, B 2), (B 3, B 4, B 5)] = true ∧ B 0 ≤ B 3 ∧ B 1 ≤ B 4 ∧ B 2 ≤ B 5 := by
  unfold okBox boxTo boxTo boxTo boxTo at h
  have h4 : ((rightV [(B 0, B 1, B 2), (B 3, B 4, B 5)] = true ∧ B 0 ≤ B (3 + 0)) ∧ B 1 ≤ B (3 + 1)) ∧ B 2 ≤ B (3 + 2) := by simpa using h
  exact ⟨h4.1.1.1, h4.1.1.2, h4.1.2, h4.2⟩
theorem okBox_at {B : Nat → Int} (h : okBox B = true) {k : Nat} (hk : k < 6) : okB (B k) = true := by
  have hr := (boxTo_parts h).1
  rw [rightV2] at hr
  obtain ⟨ha, hb⟩ := ok6_parts hr
  obtain ⟨a0, a1, a2⟩ := ok3_parts ha
  obtain ⟨b0, b1, b2⟩ := ok3_parts hb
  rcases lt6 hk with rfl | rfl | rfl | rfl | rfl | rfl
  · exact a0
  · exact a1
  · exact a2
  · exact b0
  · exact b1
  · exact b2
theorem in_ok {B V : Nat → Int} (h : okBox B = true) (hin : inBox B V = true) : okV3 V = true := by
  have hi := inBox_iff.1 hin
  have o : ∀ k, k < 3 → okB (V k) = true := fun k hk => okB_mid (okBox_at h (by omega)) (okBox_at h (by omega)) (hi k hk).1 (hi k hk).2
  unfold okV3 ok3 rightB
  simp [o 0 (by omega), o 1 (by omega), o 2 (by omega)]
/-- INSIDE: a vector in a box, and a matrix applied, is in the box that it carries -/
theorem carry_mid {M B V : Nat → Int} (hin : inBox B V = true) (h : carE M B = 0) : appE M V = 0 ∧ inBox (carV M B) (appV M V) = true := by
  have hok : okM M = true ∧ okBox B = true := by
    by_cases c : carOk M B = true
    · simpa [carOk] using c
    · rw [carE_no (by simpa using c)] at h; omega
  have hf := h
  rw [carE_yes hok.1 hok.2] at hf
  have hz : ∀ r, r < 3 → caE M B r = 0 := by
    unfold first3 at hf
    by_cases h0 : caE M B 0 = 0
    · rw [if_pos h0] at hf
      by_cases h1 : caE M B 1 = 0
      · rw [if_pos h1] at hf
        intro r hr
        obtain rfl | rfl | rfl : r = 0 ∨ r = 1 ∨ r = 2 := by omega
        · exact h0
        · exact h1
        · exact hf
      · rw [if_neg h1] at hf; exact absurd hf h1
    · rw [if_neg h0] at hf; exact absurd hf h0
  have hm : ∀ r, r < 3 → apEK M V r = 0 ∧ caLo M B r ≤ apK M V r ∧ apK M V r ≤ caHi M B r := fun r hr => al_mid hin (hz r hr)
  have ha : appE M V = 0 := by
    rw [appE_yes hok.1 (in_ok hok.2 hin), (hm 0 (by omega)).1, (hm 1 (by omega)).1, (hm 2 (by omega)).1]; rfl
  refine ⟨ha, inBox_iff.2 fun k hk => ?_⟩
  rw [carV_of h, carV_of h, appV_of ha]
  show caK M B k ≤ apK M V k ∧ apK M V k ≤ caK M B (3 + k)
  unfold caK
  rw [if_pos hk, if_neg (by omega), show 3 + k - 3 = k by omega]
  exact (hm k hk).2
theorem bet_low (p x : Int) : bet lessB p x ≤ p ∧ bet lessB p x ≤ x := by
  unfold bet lessB
  by_cases c : x < p
  · rw [if_pos (by simpa using c)]; omega
  · rw [if_neg (by simpa using c)]; omega
theorem bet_high (p x : Int) : p ≤ bet moreB p x ∧ x ≤ bet moreB p x := by
  unfold bet moreB
  by_cases c : x > p
  · rw [if_pos (by simpa using c)]; omega
  · rw [if_neg (by simpa using c)]; omega
/-- a vector's distance is in the span -/
theorem span_mid {P B V : Nat → Int} (hin : inBox B V = true) (h : spnE P B = 0) (hd : disE P V = 0) : spnLo P B ≤ disV P V ∧ disV P V ≤ spnHi P B := by
  have hs : spnOk P B = true := by
    by_cases c : spnOk P B = true
    · exact c
    · unfold spnE at h; rw [if_neg c] at h; omega
  have hdk : disOk P V = true := by
    by_cases c : disOk P V = true
    · exact c
    · unfold disE at hd; rw [if_neg c] at hd; omega
  unfold spnE at h
  rw [if_pos hs] at h
  unfold disE at hd
  rw [if_pos hdk] at hd
  unfold spnLo spnHi disV
  rw [if_pos hs, if_pos hs, if_pos hdk]
  by_cases h0 : dsE0 P V = 0
  · rw [if_pos h0] at hd ⊢
    obtain ⟨hm, hk, hr, hlo, hhi⟩ := en_mid hin h
    have hds : dsV0 P V = mulV (P 0) (V 0) + mulV (P 1) (V 1) + mulV (P 2) (V 2) := by
      have h6 : ok6 (P 0) (P 1) (P 2) (V 0) (V 1) (V 2) = true := by
        by_cases c : ok6 (P 0) (P 1) (P 2) (V 0) (V 1) (V 2) = true
        · exact c
        · unfold dsE0 at h0; rw [(dot_no (by simpa using c)).2] at h0; omega
      have hp : prodE (P 0) (P 1) (P 2) (V 0) (V 1) (V 2) = 0 := by
        unfold prodE first3
        rw [hm 0 (by omega), hm 1 (by omega), hm 2 (by omega)]; rfl
      unfold dsE0 at h0
      rw [(dot_yes h6 hp).2] at h0
      unfold dsV0
      rw [(dot_yes h6 hp).1, (add_parts h0).2.2]
      simp only [List.sum_cons, List.sum_nil]
      omega
    rw [(add_parts hd).2.2]
    simp only [List.sum_cons, List.sum_nil]
    rw [hds]
    omega
  · rw [if_neg h0] at hd; exact absurd hd h0

/-- what joins two boxes has what the first one has -/
theorem join_mid {B C V : Nat → Int} (hin : inBox B V = true) (h : joinE [B, C] = 0) : inBox (joinV [B, C]) V = true := by
  have hok : joinOk [B, C] = true := by
    by_cases c : joinOk [B, C] = true
    · exact c
    · rw [(join_no (by simpa using c)).1] at h; omega
  have hi := inBox_iff.1 hin
  refine inBox_iff.2 fun k hk => ?_
  rw [(join_yes hok).2, (join_yes hok).2]
  unfold joinK
  rw [if_pos hk, if_neg (by omega), show 3 + k - 3 = k by omega]
  obtain rfl | rfl | rfl : k = 0 ∨ k = 1 ∨ k = 2 := by omega
  · exact ⟨Int.le_trans (bet_low (B 0) (C 0)).1 (hi 0 (by omega)).1, Int.le_trans (hi 0 (by omega)).2 (bet_high (B 3) (C 3)).1⟩
  · exact ⟨Int.le_trans (bet_low (B 1) (C 1)).1 (hi 1 (by omega)).1, Int.le_trans (hi 1 (by omega)).2 (bet_high (B 4) (C 4)).1⟩
  · exact ⟨Int.le_trans (bet_low (B 2) (C 2)).1 (hi 2 (by omega)).1, Int.le_trans (hi 2 (by omega)).2 (bet_high (B 5) (C 5)).1⟩

end Go.Proofs.YtcpgkkphibhdfaaGreat
/-
  Arguments that are boxes and planes, opened to their numbers.
-/
namespace Go.Proofs.YtcpgkkphibhdfaaGreat
open Go.ChangeShapes Go.WideShapes Go.ChangeAt Go.RowKit Go.Deep

/-- n cells that are numbers -/
def Nums (cs : List Value) (n : Nat) (M : Nat → Int) : Prop := ∀ i, i < n → cs[i]? = some (.int .i64 (M i))
theorem nums_piece {cs : List Value} {o n : Nat} {M : Nat → Int} (h : Nums ((cs.drop o).take n) n M) {i : Nat} (hi : i < n) : cs[o + i]? = some (.int .i64 (M i)) := by
  have := h i hi
  rw [List.getElem?_take, if_pos hi, List.getElem?_drop] at this
  exact this
theorem nums_join {cs : List Value} {n m : Nat} {M N : Nat → Int} (h : Nums ((cs.drop 0).take n) n M) (k : Nums ((cs.drop n).take m) m N) : Nums cs (n + m) (fun i => if i < n then M i else N (i - n)) := fun i hi => by
  show cs[i]? = some (.int .i64 (if i < n then M i else N (i - n)))
  by_cases c : i < n
  · rw [if_pos c]
    have := nums_piece h c
    rwa [Nat.zero_add] at this
  · rw [if_neg c]
    have := nums_piece k (i := i - n) (by omega)
    rwa [show n + (i - n) = i by omega] at this
theorem nums4 {cs : List Value} {M : Nat → Int} (hl : cs.length = 4) (h : Nums cs 4 M) : cs = [.int .i64 (M 0), .int .i64 (M 1), .int .i64 (M 2), .int .i64 (M 3)] := by
  match cs, hl with
  | [c0, c1, c2, c3], _ =>
    have h0 := h 0 (by omega)
    have h1 := h 1 (by omega)
    have h2 := h 2 (by omega)
    have h3 := h 3 (by omega)
    simp at h0 h1 h2 h3
    rw [h0, h1, h2, h3]
theorem nums8 {cs : List Value} {M : Nat → Int} (hl : cs.length = 8) (h : Nums cs 8 M) : cs = [.int .i64 (M 0), .int .i64 (M 1), .int .i64 (M 2), .int .i64 (M 3), .int .i64 (M 4), .int .i64 (M 5), .int .i64 (M 6), .int .i64 (M 7)] := by
  match cs, hl with
  | [c0, c1, c2, c3, c4, c5, c6, c7], _ =>
    have h0 := h 0 (by omega)
    have h1 := h 1 (by omega)
    have h2 := h 2 (by omega)
    have h3 := h 3 (by omega)
    have h4 := h 4 (by omega)
    have h5 := h 5 (by omega)
    have h6 := h 6 (by omega)
    have h7 := h 7 (by omega)
    simp at h0 h1 h2 h3 h4 h5 h6 h7
    rw [h0, h1, h2, h3, h4, h5, h6, h7]

section
variable {H : Type} {enc : TypeId × Value → H} {w : World} {base : Nat} {spare : Nat → Bool} {held : Bool}

theorem vec_nums {fuel : Nat} {cs : List Value} {x : DataW H × List MemPlace} (h : DataW.trod enc Tryz.prog w base spare held fuel 40 cs = some x) : ∃ M, Nums cs 3 M := by
  obtain ⟨M, hM⟩ := open_nums Tryz.underlying40 Tryz.underlying36 (by kernel_rfl) h
  exact ⟨M, fun i hi => (hM i hi).1⟩
theorem box_nums {fuel : Nat} {cs : List Value} {x : DataW H × List MemPlace} (h : DataW.trod enc Tryz.prog w base spare held fuel 42 cs = some x) : ∃ M, Nums cs 6 M := by
  obtain ⟨xs, n, _, _, _, hxl, hx⟩ := DataW.trod_struct Tryz.underlying42 h
  have hxl2 : xs.length = 2 := hxl
  have hC : Tryz.prog.cellsOf 40 = 3 := by kernel_rfl
  have h0 : DataW.trod enc Tryz.prog w base spare held n 40 ((cs.drop 0).take 3) = some (xs[0]'(by omega)) := by
    rw [← hC]; exact (hx 0 _ rfl).trans (List.getElem?_eq_getElem (by omega))
  have h1 : DataW.trod enc Tryz.prog w base spare held n 40 ((cs.drop 3).take 3) = some (xs[1]'(by omega)) := by
    have := (hx 1 _ rfl).trans (List.getElem?_eq_getElem (show 1 < xs.length by omega))
    exact (congrArg (fun c => DataW.trod enc Tryz.prog w base spare held n 40 ((cs.drop 3).take c)) hC.symm).trans this
  obtain ⟨M, hM⟩ := vec_nums h0
  obtain ⟨N, hN⟩ := vec_nums h1
  exact ⟨_, nums_join hM hN⟩
theorem two_nums {t e : TypeId} {c fuel : Nat} {cs : List Value} {x : DataW H × List MemPlace} (ht : Tryz.prog.underlying t = some (.array 2 e)) (hc : Tryz.prog.cellsOf e = c) (he : ∀ fuel cs (x : DataW H × List MemPlace), DataW.trod enc Tryz.prog w base spare held fuel e cs = some x → ∃ M, Nums cs c M)
    (h : DataW.trod enc Tryz.prog w base spare held fuel t cs = some x) : ∃ M, Nums cs (c + c) M := by
  obtain ⟨xs, n, _, _, _, hxl, hx⟩ := DataW.trod_array ht h
  rw [hc] at hx
  have h0 := (hx 0 (by omega)).trans (List.getElem?_eq_getElem (show 0 < xs.length by omega))
  have h1 := (hx 1 (by omega)).trans (List.getElem?_eq_getElem (show 1 < xs.length by omega))
  rw [Nat.zero_mul] at h0
  rw [Nat.one_mul] at h1
  obtain ⟨M, hM⟩ := he _ _ _ h0
  obtain ⟨N, hN⟩ := he _ _ _ h1
  exact ⟨_, nums_join hM hN⟩

/-- a slice of boxes that came in -/
theorem open_boxes {fuel : Nat} {a : Option Addr} {len cap : Nat} {x : DataW H × List MemPlace} (h : DataW.trod enc Tryz.prog w base (fun _ => true) held fuel 139 [.slice a len cap] = some x) :
    ∃ Bs, BRow w a len Bs ∧ len ≤ cap ∧ cap ≤ 9223372036854775807 := by
  rcases open_slice Tryz.underlying139 h with ⟨hcs, _⟩ | ⟨ad, l, c, m, n, D, Pl, hcs, _, hlc, hm, hmm, _, hi⟩
  · simp at hcs
    obtain ⟨rfl, rfl, rfl⟩ := hcs
    exact ⟨[], ⟨rfl, by omega, .inl rfl⟩, by omega, by omega⟩
  · simp at hcs
    obtain ⟨rfl, rfl, rfl⟩ := hcs
    unfold maxLen at hm
    have hC : Tryz.prog.cellsOf 42 = 6 := by kernel_rfl
    rw [hC] at hi
    simp only [if_true] at hmm
    subst hmm
    obtain ⟨V, hV⟩ := choose_lt (α := Nat → Int) (n := len) (p := fun i M => ∀ j, j < 6 → w.cell? ((ad.add (i * 6)).add j) = some (.int .i64 (M j))) (fun i hil => by
      obtain ⟨cs', hc, ht⟩ := hi i (by omega)
      obtain ⟨_, hlen, hat⟩ := World.cells?_some hc
      obtain ⟨M, hM⟩ := box_nums ht
      exact ⟨M, fun j hj => by rw [hat j (by omega)]; exact hM j hj⟩)
    refine ⟨(List.range len).map V, ⟨by simp, by omega, ?_⟩, hlc, by omega⟩
    by_cases h0 : len = 0
    · exact .inl h0
    · obtain ⟨b, off, spot⟩ := ad
      have hspot : spot = none := by simpa [Addr.add] using World.cell?_spot (hV 0 (by omega) 0 (by omega))
      subst hspot
      refine .inr ⟨b, off, rfl, fun i hil j hj => ?_⟩
      have e : ((List.range len).map V).getD i zeroB = V i := by simp [List.getD, hil]
      rw [e]
      have := hV i hil j hj
      simpa only [add_plain] using this
end
end Go.Proofs.YtcpgkkphibhdfaaGreat
/-
  '==' of two boxes that are the same.
-/
namespace Go.Proofs.YtcpgkkphibhdfaaGreat
open Go.RowKit

theorem eqVecF (n : Nat) (a b c : Int) (w : World) : (Op.equalIn (n + 1 + 1) 40 (.agg #[.int .i64 a, .int .i64 b, .int .i64 c]) (.agg #[.int .i64 a, .int .i64 b, .int .i64 c])).run Tryz.prog w = .ok true w := by
  have u3 := Tryz.underlying36
  have a3 := Tryz.isAgg36
  have z3 := Tryz.sizeOf36
  rw [Op.equalIn]
  simp only [Sem.run_bind, run_underlying Tryz.underlying40, Result.andThen_ok]
  simp only [Std.Legacy.Range.forIn_eq_forIn_range', Std.Legacy.Range.size, Nat.sub_zero, Nat.add_sub_cancel, Nat.div_one, List.range'_succ, List.range'_zero, List.forIn_cons, List.forIn_nil]
  go_simp

set_option maxHeartbeats 1000000 in
theorem eqBox (a b c d e f : Int) (w : World) : (Op.equalIn 10000 42 (.agg #[.int .i64 a, .int .i64 b, .int .i64 c, .int .i64 d, .int .i64 e, .int .i64 f]) (.agg #[.int .i64 a, .int .i64 b, .int .i64 c, .int .i64 d, .int .i64 e, .int .i64 f])).run Tryz.prog w = .ok true w := by
  have hv := eqVecF
  have a3 := Tryz.isAgg40
  have z3 := Tryz.sizeOf40
  rw [show (10000 : Nat) = 9997 + 1 + 1 + 1 from rfl, Op.equalIn]
  simp only [Sem.run_bind, run_underlying Tryz.underlying42, Result.andThen_ok]
  go_simp

end Go.Proofs.YtcpgkkphibhdfaaGreat
/-
  What package shape's products, total and split answer.
-/
namespace Go.Proofs.YtcpgkkphibhdfaaGreat
open Go.RowKit

/-- the products of two vectors' numbers, place by place -/
def prP (N V : Nat → Int) (j : Nat) : Int := mulV (N j) (V j)
def prPE (N V : Nat → Int) (j : Nat) : Int := mulE (N j) (V j)
def prE (N V : Nat → Int) : Int := first3 (prPE N V 0) (prPE N V 1) (prPE N V 2)
def prV (N V : Nat → Int) (j : Nat) : Int := gate (prE N V) (prP N V j)

/-- a row of a matrix as a plane -/
def spM (M : Nat → Int) (r k : Nat) : Int := M (4 * r + k)

end Go.Proofs.YtcpgkkphibhdfaaGreat
/-
  What package shape's ends answers.
-/
namespace Go.Proofs.YtcpgkkphibhdfaaGreat
open Go.RowKit

theorem fitE_six {x : Int} (h : fitE x ≠ 0) : fitE x = 6 := by
  unfold fitE at h ⊢
  by_cases c : okB x = true
  · rw [if_pos c] at h; exact absurd rfl h
  · rw [if_neg c]
theorem fitV_ok (x : Int) : okB (fitV x) = true := by
  unfold fitV
  by_cases c : okB x = true
  · rw [if_pos c]; exact c
  · rw [if_neg c]; decide
theorem mulE_six {x y : Int} (hx : okB x = true) (hy : okB y = true) (h : mulE x y ≠ 0) : mulE x y = 6 := by
  have ho : (okB x && okB y) = true := by rw [hx, hy]; rfl
  rw [(mul_yes ho).2] at h ⊢
  exact fitE_six h
theorem mulV_ok (x y : Int) : okB (mulV x y) = true := by
  by_cases ho : (okB x && okB y) = true
  · rw [(mul_yes ho).1]; exact fitV_ok _
  · rw [(mul_no (by simpa using ho)).1]; decide
theorem first3_ne {e : Nat → Int} (h : first3 (e 0) (e 1) (e 2) ≠ 0) : ∃ k, k < 3 ∧ e k ≠ 0 ∧ first3 (e 0) (e 1) (e 2) = e k := by
  unfold first3 at h ⊢
  by_cases h0 : e 0 = 0
  · rw [if_pos h0] at h ⊢
    by_cases h1 : e 1 = 0
    · rw [if_pos h1] at h ⊢
      exact ⟨2, by omega, h, rfl⟩
    · rw [if_neg h1]; exact ⟨1, by omega, h1, rfl⟩
  · rw [if_neg h0]; exact ⟨0, by omega, h0, rfl⟩
theorem first3_zero {e : Nat → Int} (h : first3 (e 0) (e 1) (e 2) = 0) : ∀ k, k < 3 → e k = 0 := by
  unfold first3 at h
  by_cases h0 : e 0 = 0
  · rw [if_pos h0] at h
    by_cases h1 : e 1 = 0
    · rw [if_pos h1] at h
      intro k hk
      obtain rfl | rfl | rfl : k = 0 ∨ k = 1 ∨ k = 2 := by omega
      · exact h0
      · exact h1
      · exact h
    · rw [if_neg h1] at h; exact absurd h h1
  · rw [if_neg h0] at h; exact absurd h h0
theorem okPlane_at {P : Nat → Int} (h : okPlane P = true) {k : Nat} (hk : k < 4) : okB (P k) = true := by
  unfold okPlane rightB at h
  have h4 : okB (P 0) = true ∧ okB (P 1) = true ∧ okB (P 2) = true ∧ okB (P 3) = true := by simpa using h
  obtain rfl | rfl | rfl | rfl : k = 0 ∨ k = 1 ∨ k = 2 ∨ k = 3 := by omega
  · exact h4.1
  · exact h4.2.1
  · exact h4.2.2.1
  · exact h4.2.2.2
def upB (B : Nat → Int) (j : Nat) : Int := B (3 + j)

theorem lo_bad {P B : Nat → Int} {t : Int} (h : okPlane P = true) (h' : okBox B = true) (he : prE P B ≠ 0) : prE P B = 6 ∧ enE P B t = 6 := by
  obtain ⟨k, hk, hn, hq⟩ := first3_ne (e := prPE P B) he
  refine ⟨hq.trans (mulE_six (okPlane_at h (by omega)) (okBox_at h' (by omega)) hn), enE_bad (k := k) ?_ hk⟩
  unfold enBad
  have : (mulE (P k) (B k) != 0) = true := by simpa using (show mulE (P k) (B k) ≠ 0 from hn)
  rw [this]; rfl
theorem hi_bad {P B : Nat → Int} {t : Int} (h : okPlane P = true) (h' : okBox B = true) (he : prE P (upB B) ≠ 0) : prE P (upB B) = 6 ∧ enE P B t = 6 := by
  obtain ⟨k, hk, hn, hq⟩ := first3_ne (e := prPE P (upB B)) he
  refine ⟨hq.trans (mulE_six (okPlane_at h (by omega)) (okBox_at h' (by omega)) hn), enE_bad (k := k) ?_ hk⟩
  unfold enBad
  have : (mulE (P k) (B (3 + k)) != 0) = true := by simpa using (show mulE (P k) (B (3 + k)) ≠ 0 from hn)
  rw [this, Bool.or_true]
theorem bet_less (a b : Int) : bet lessB a b = min a b := by
  unfold bet lessB
  by_cases c : b < a
  · rw [if_pos (by simpa using c)]; omega
  · rw [if_neg (by simpa using c)]; omega
theorem bet_more (a b : Int) : bet moreB a b = max a b := by
  unfold bet moreB
  by_cases c : b > a
  · rw [if_pos (by simpa using c)]; omega
  · rw [if_neg (by simpa using c)]; omega
theorem add_turn (x y z t : Int) : addV [x, y, z, t] = addV [t, x, y, z] ∧ addE [x, y, z, t] = addE [t, x, y, z] := by
  have hs : [x, y, z, t].sum = [t, x, y, z].sum := by simp only [List.sum_cons, List.sum_nil]; omega
  have hr : addOk [x, y, z, t] = addOk [t, x, y, z] := by
    unfold addOk rightB
    simp only [List.all_cons, List.all_nil, List.length_cons, List.length_nil]
    cases okB x <;> cases okB y <;> cases okB z <;> cases okB t <;> rfl
  unfold addV addE
  rw [hs, hr]
  exact ⟨rfl, rfl⟩
theorem add_six {x y z t : Int} (hx : okB x = true) (hy : okB y = true) (hz : okB z = true) (ht : okB t = true) (h : addE [x, y, z, t] ≠ 0) : addE [x, y, z, t] = 6 := by
  have ho : addOk [x, y, z, t] = true := addOk_yes rfl (by simp) (by unfold rightB; simp [hx, hy, hz, ht])
  rw [addE_yes ho] at h ⊢
  exact fitE_six h
theorem okB_min {x y : Int} (hx : okB x = true) (hy : okB y = true) : okB (min x y) = true := by
  obtain ⟨a1, a2⟩ := okB_iff.1 hx
  obtain ⟨b1, b2⟩ := okB_iff.1 hy
  exact okB_yes (by omega) (by omega)
theorem okB_max {x y : Int} (hx : okB x = true) (hy : okB y = true) : okB (max x y) = true := by
  obtain ⟨a1, a2⟩ := okB_iff.1 hx
  obtain ⟨b1, b2⟩ := okB_iff.1 hy
  exact okB_yes (by omega) (by omega)
theorem en_good {P B : Nat → Int} {t : Int} (ht : okB t = true) (h1 : prE P B = 0) (h2 : prE P (upB B) = 0) :
    ∃ l0 l1 l2 g0 g1 g2, pk lessB [(prV P B 0, prV P B 1, prV P B 2), (prV P (upB B) 0, prV P (upB B) 1, prV P (upB B) 2)] = (l0, l1, l2) ∧ pk moreB [(prV P B 0, prV P B 1, prV P B 2), (prV P (upB B) 0, prV P (upB B) 1, prV P (upB B) 2)] = (g0, g1, g2) ∧
      (addE [l0, l1, l2, t] ≠ 0 → addE [l0, l1, l2, t] = 6 ∧ enE P B t = 6) ∧ (addE [g0, g1, g2, t] ≠ 0 → addE [g0, g1, g2, t] = 6 ∧ enE P B t = 6) ∧
      (addE [l0, l1, l2, t] = 0 → addE [g0, g1, g2, t] = 0 → enE P B t = 0 ∧ enLo P B t = addV [l0, l1, l2, t] ∧ enHi P B t = addV [g0, g1, g2, t]) := by
  have hb : enBad P B 0 = false ∧ enBad P B 1 = false ∧ enBad P B 2 = false := by
    have a := first3_zero (e := prPE P B) h1
    have b := first3_zero (e := prPE P (upB B)) h2
    have c : ∀ k, k < 3 → enBad P B k = false := fun k hk => by
      unfold enBad
      rw [show mulE (P k) (B k) = 0 from a k hk, show mulE (P k) (B (3 + k)) = 0 from b k hk]; rfl
    exact ⟨c 0 (by omega), c 1 (by omega), c 2 (by omega)⟩
  have v1 : ∀ k, prV P B k = enX P B k := fun k => by unfold prV; rw [h1]; rfl
  have v2 : ∀ k, prV P (upB B) k = enY P B k := fun k => by unfold prV; rw [h2]; rfl
  have el : enLoL P B t = [t, min (enX P B 0) (enY P B 0), min (enX P B 1) (enY P B 1), min (enX P B 2) (enY P B 2)] := rfl
  have eh : enHiL P B t = [t, max (enX P B 0) (enY P B 0), max (enX P B 1) (enY P B 1), max (enX P B 2) (enY P B 2)] := rfl
  have ee : enE P B t = if (addE (enLoL P B t) != 0) || (addE (enHiL P B t) != 0) then 6 else 0 := by unfold enE; rw [hb.1, hb.2.1, hb.2.2]; rfl
  have kx : ∀ k, okB (enX P B k) = true := fun k => mulV_ok _ _
  have ky : ∀ k, okB (enY P B k) = true := fun k => mulV_ok _ _
  have tl := add_turn (min (enX P B 0) (enY P B 0)) (min (enX P B 1) (enY P B 1)) (min (enX P B 2) (enY P B 2)) t
  have th := add_turn (max (enX P B 0) (enY P B 0)) (max (enX P B 1) (enY P B 1)) (max (enX P B 2) (enY P B 2)) t
  rw [← el] at tl
  rw [← eh] at th
  refine ⟨min (enX P B 0) (enY P B 0), min (enX P B 1) (enY P B 1), min (enX P B 2) (enY P B 2), max (enX P B 0) (enY P B 0), max (enX P B 1) (enY P B 1), max (enX P B 2) (enY P B 2), ?_, ?_, ?_, ?_, ?_⟩
  · rw [v1, v1, v1, v2, v2, v2, ← bet_less, ← bet_less, ← bet_less]; rfl
  · rw [v1, v1, v1, v2, v2, v2, ← bet_more, ← bet_more, ← bet_more]; rfl
  · intro h
    refine ⟨add_six (okB_min (kx 0) (ky 0)) (okB_min (kx 1) (ky 1)) (okB_min (kx 2) (ky 2)) ht h, ?_⟩
    rw [tl.2] at h
    rw [ee, show (addE (enLoL P B t) != 0) = true by simpa using h]; rfl
  · intro h
    refine ⟨add_six (okB_max (kx 0) (ky 0)) (okB_max (kx 1) (ky 1)) (okB_max (kx 2) (ky 2)) ht h, ?_⟩
    rw [th.2] at h
    rw [ee, show (addE (enHiL P B t) != 0) = true by simpa using h, Bool.or_true]; rfl
  · intro a b
    have e0 : enE P B t = 0 := by
      rw [tl.2] at a
      rw [th.2] at b
      rw [ee, a, b]; rfl
    refine ⟨e0, ?_, ?_⟩
    · unfold enLo; rw [e0, tl.1]; rfl
    · unfold enHi; rw [e0, th.1]; rfl

theorem pick_xyz_l (a : Option Addr) (vs : List V3) (w : World) (p0 p1 p2 : Int) (hp : pk lessB vs = (p0, p1, p2)) (row : VRow w a 2 vs) :
    Calls Tryz.prog 136 #[.slice a 2 2] w fun e w' => e = .returned (.agg #[.int .i64 p0, .int .i64 p1, .int .i64 p2]) ∧ Below w.heap.size w w' :=
  (least_any a 2 2 vs w (by omega) (by omega) row).mono fun _ _ ⟨he, hw⟩ => ⟨by rw [he, hp]; rfl, hw⟩
end Go.Proofs.YtcpgkkphibhdfaaGreat
/-
  What package shape's Right, Plane and In answer.
-/
namespace Go.Proofs.YtcpgkkphibhdfaaGreat
open Go.RowKit

theorem okBox_as (B : Nat → Int) : okBox B = (rightV [(B 0, B 1, B 2), (B 3, B 4, B 5)] && (bet lessB (B 0) (B 3) == B 0 && bet lessB (B 1) (B 4) == B 1 && bet lessB (B 2) (B 5) == B 2)) := by
  have e : ∀ a b : Int, (bet lessB a b == a) = decide (a ≤ b) := fun a b => by
    rw [bet_less]
    by_cases c : a ≤ b
    · rw [show min a b = a by omega, decide_eq_true c]; simp
    · rw [decide_eq_false c]; simp; omega
  rw [e, e, e]
  unfold okBox boxTo boxTo boxTo boxTo
  cases rightV [(B 0, B 1, B 2), (B 3, B 4, B 5)] <;> simp [Bool.and_assoc]
theorem vright_b {a : Option Addr} {len cap : Nat} {vs : List V3} {w : World} {b : Bool} (hr : rightV vs = b) (row : VRow w a len vs) :
    Calls Tryz.prog 135 #[.slice a len cap] w fun e w' => e = .returned (.bool b) ∧ Below w.heap.size w w' :=
  (vright_any a len cap vs w row).mono fun _ _ ⟨he, hw⟩ => ⟨by rw [he, hr], hw⟩
theorem right_b {a : Option Addr} {len cap : Nat} {zs : List Int} {w : World} {b : Bool} (hr : rightB zs = b) (row : Row w a len zs) :
    Calls Tryz.prog 134 #[.slice a len cap] w fun e w' => e = .returned (.bool b) ∧ w = w' :=
  (right_any a len cap zs w row).mono fun _ _ ⟨he, hw⟩ => ⟨by rw [he, hr], hw⟩

set_option maxHeartbeats 2000000 in
theorem shright_any (a : Option Addr) (len cap : Nat) (Bs : List (Nat → Int)) (w : World) (row : BRow w a len Bs) :
    Calls Tryz.prog 103 #[.slice a len cap] w fun e w' => e = .returned (.bool (rightBx Bs)) ∧ Below w.heap.size w w' := by
  have HL := Lib.hid row.1
  have hbig := row.2.1
  have HRow := Lib.hid row
  clear row
  go_enter Tryz.func103, Tryz.ntmps103
  go_wp2
  go_loopw [4, 7] (fun _ i wr => ∃ k : Nat, k ≤ len ∧ i = .int .i64 k ∧ rightBx (Bs.take k) = true ∧ Below w.heap.size w wr) (fun _ i _ => len - (intOf i).toNat)
  case atStart => exact ⟨0, Nat.zero_le _, rfl, rfl, Below.refl _ _⟩
  case round =>
    obtain ⟨k, hk, rfl, hr, hb⟩ := hrel
    have HR := Lib.hid hr
    have HB := Lib.hid hb
    clear hr hb
    by_cases hlt : k < len
    · obtain ⟨b, off, B, rfl, hv, m0, m1, m2, m3, m4, m5⟩ := (brow_keep HRow.out HB.out).at_ hlt
      have HV := Lib.hid hv
      clear hv
      have HS : Hid (∀ w', Below (wr.alloc (.cells #[.int .i64 (B 0), .int .i64 (B 1), .int .i64 (B 2), .int .i64 (B 3), .int .i64 (B 4), .int .i64 (B 5)] 42)).heap.size (wr.alloc (.cells #[.int .i64 (B 0), .int .i64 (B 1), .int .i64 (B 2), .int .i64 (B 3), .int .i64 (B 4), .int .i64 (B 5)] 42)) w' → (w'.cell? ⟨wr.heap.size, 0, none⟩ = some (.int .i64 (B 0)) ∧ w'.cell? ⟨wr.heap.size, 1, none⟩ = some (.int .i64 (B 1)) ∧ w'.cell? ⟨wr.heap.size, 2, none⟩ = some (.int .i64 (B 2)) ∧ w'.cell? ⟨wr.heap.size, 3, none⟩ = some (.int .i64 (B 3)) ∧ w'.cell? ⟨wr.heap.size, 4, none⟩ = some (.int .i64 (B 4)) ∧ w'.cell? ⟨wr.heap.size, 5, none⟩ = some (.int .i64 (B 5)))) :=
        Lib.hid (fun w' hb => ⟨((Blk.new wr _ _).keep hb).cell 0, ((Blk.new wr _ _).keep hb).cell 1, ((Blk.new wr _ _).keep hb).cell 2, ((Blk.new wr _ _).keep hb).cell 3, ((Blk.new wr _ _).keep hb).cell 4, ((Blk.new wr _ _).keep hb).cell 5⟩)
      obtain ⟨p0, p1, p2, hp⟩ : ∃ p0 p1 p2, pk lessB [(B 0, B 1, B 2), (B 3, B 4, B 5)] = (p0, p1, p2) := ⟨_, _, _, rfl⟩
      have hok := okBox_as B
      obtain ⟨q0, hq⟩ : bet lessB (B 0) (B 3) = p0 ∧ bet lessB (B 1) (B 4) = p1 ∧ bet lessB (B 2) (B 5) = p2 := by
        have h3 : (bet lessB (B 0) (B 3), bet lessB (B 1) (B 4), bet lessB (B 2) (B 5)) = (p0, p1, p2) := hp
        simpa using h3
      rw [q0, hq.1, hq.2] at hok
      have HP := Lib.hid hp
      have HOk := Lib.hid hok
      clear hp hok q0 hq
      have heq := eqVec
      by_cases hr2 : rightV [(B 0, B 1, B 2), (B 3, B 4, B 5)] = true
      · have HR2 := Lib.hid hr2
        clear hr2
        by_cases hmn : (p0 == B 0 && p1 == B 1 && p2 == B 2) = true
        · go_wp2
          go_region_held3 (fun w' => w'.cell? ⟨wr.heap.size, 0, none⟩ = some (.int .i64 (B 0)) ∧ w'.cell? ⟨wr.heap.size, 1, none⟩ = some (.int .i64 (B 1)) ∧ w'.cell? ⟨wr.heap.size, 2, none⟩ = some (.int .i64 (B 2)) ∧ w'.cell? ⟨wr.heap.size, 3, none⟩ = some (.int .i64 (B 3)) ∧ w'.cell? ⟨wr.heap.size, 4, none⟩ = some (.int .i64 (B 4)) ∧ w'.cell? ⟨wr.heap.size, 5, none⟩ = some (.int .i64 (B 5)))
            (first | exact HS.out _ (bthen (balloc (bthen (alloc_below _ _) (bdrew c1)) _) c2) | exact HS.out _ (balloc (bthen (alloc_below _ _) (bdrew c1)) _) | exact HS.out _ (bthen (alloc_below _ _) (bdrew c1)) | exact HS.out _ (bdrewn (alloc_below _ _)) | exact HS.out _ (bdrewn (Below.refl _ _)))
            (first | (go_at_call 136; refine (pick_xyz_l _ _ _ p0 p1 p2 HP.out (vrow2 (Blk.new _ _ _))).mono ?_; rintro e w2 ⟨rfl, c2⟩) | (go_at_call 135; refine (vright_b HR2.out (vrow2 (Blk.drew (blkAt (Blk.new _ _ _) (by simp))))).mono ?_; rintro e w1 ⟨rfl, c1⟩))
          have B2 := Lib.hid (bthen (balloc (bthen (balloc (balloc HB.out _) _) (bdrew c1)) _) c2)
          have HG := Lib.hid (show okBox B = true by rw [HOk.out, HR2.out, hmn]; rfl)
          clear c1 c2 hmn m0 m1 m2 m3 m4 m5
          go_wp2
          go_roundw
          case rel => exact ⟨k + 1, by omega, by go_num, rightBx_succ HV.out HR.out HG.out, B2.out⟩
          case measure => simp [intOf] <;> omega
        · have hmn' : (p0 == B 0 && p1 == B 1 && p2 == B 2) = false := by simpa using hmn
          clear hmn
          go_wp2
          go_region_held3 (fun w' => w'.cell? ⟨wr.heap.size, 0, none⟩ = some (.int .i64 (B 0)) ∧ w'.cell? ⟨wr.heap.size, 1, none⟩ = some (.int .i64 (B 1)) ∧ w'.cell? ⟨wr.heap.size, 2, none⟩ = some (.int .i64 (B 2)) ∧ w'.cell? ⟨wr.heap.size, 3, none⟩ = some (.int .i64 (B 3)) ∧ w'.cell? ⟨wr.heap.size, 4, none⟩ = some (.int .i64 (B 4)) ∧ w'.cell? ⟨wr.heap.size, 5, none⟩ = some (.int .i64 (B 5)))
            (first | exact HS.out _ (bthen (balloc (bthen (alloc_below _ _) (bdrew c1)) _) c2) | exact HS.out _ (balloc (bthen (alloc_below _ _) (bdrew c1)) _) | exact HS.out _ (bthen (alloc_below _ _) (bdrew c1)) | exact HS.out _ (bdrewn (alloc_below _ _)) | exact HS.out _ (bdrewn (Below.refl _ _)))
            (first | (go_at_call 136; refine (pick_xyz_l _ _ _ p0 p1 p2 HP.out (vrow2 (Blk.new _ _ _))).mono ?_; rintro e w2 ⟨rfl, c2⟩) | (go_at_call 135; refine (vright_b HR2.out (vrow2 (Blk.drew (blkAt (Blk.new _ _ _) (by simp))))).mono ?_; rintro e w1 ⟨rfl, c1⟩))
          have B2 := Lib.hid (bthen (balloc (bthen (balloc (balloc HB.out _) _) (bdrew c1)) _) c2)
          have HG := Lib.hid (show okBox B = false by rw [HOk.out, HR2.out, hmn']; rfl)
          clear c1 c2 hmn' m0 m1 m2 m3 m4 m5
          go_wp2
          go_ret
          exact ⟨by rw [rightBx_bad HV.out HG.out]; rfl, B2.out⟩
      · have hr3 : rightV [(B 0, B 1, B 2), (B 3, B 4, B 5)] = false := by simpa using hr2
        have HR2 := Lib.hid hr3
        clear hr2 hr3
        go_wp2
        refine wp_region_held_drew (S := (fun w' => w'.cell? ⟨wr.heap.size, 0, none⟩ = some (.int .i64 (B 0)) ∧ w'.cell? ⟨wr.heap.size, 1, none⟩ = some (.int .i64 (B 1)) ∧ w'.cell? ⟨wr.heap.size, 2, none⟩ = some (.int .i64 (B 2)) ∧ w'.cell? ⟨wr.heap.size, 3, none⟩ = some (.int .i64 (B 3)) ∧ w'.cell? ⟨wr.heap.size, 4, none⟩ = some (.int .i64 (B 4)) ∧ w'.cell? ⟨wr.heap.size, 5, none⟩ = some (.int .i64 (B 5)))) (by kernel_rfl) (HS.out _ (bdrewn (Below.refl _ _))) (fun hHeld => ?_)
        refine wpAnyH_take (i := 0) (v := ?_) rfl (by kernel_rfl) (by kernel_rfl) (by kernel_rfl) (fun _ _ _ h => h) (Or.inl ⟨by rfl, ?_⟩) hHeld ?_
        rotate_left
        · rintro w ⟨s0, s1, s2, s3, s4, s5⟩
          go_simp
          with_reducible rfl
        simp only [Act.put, List.getElem_toArray, List.getElem_cons_zero, List.setIfInBounds_toArray, List.set_cons_zero, List.set_cons_succ]
        refine wpAnyH_take (i := 1) (v := ?_) rfl (by kernel_rfl) (by kernel_rfl) (by kernel_rfl) (fun _ _ _ h => h) (Or.inl ⟨by rfl, ?_⟩) hHeld ?_
        rotate_left
        · rintro w ⟨s0, s1, s2, s3, s4, s5⟩
          go_simp
          with_reducible rfl
        simp only [Act.put, List.getElem_toArray, List.getElem_cons_zero, List.getElem_cons_succ, List.setIfInBounds_toArray, List.set_cons_zero, List.set_cons_succ]
        refine wpAnyH_take (i := 2) (v := ?_) rfl (by kernel_rfl) (by kernel_rfl) (by kernel_rfl) (fun _ _ _ h => h) (Or.inl ⟨by rfl, ?_⟩) hHeld ?_
        rotate_left
        · rintro w ⟨s0, s1, s2, s3, s4, s5⟩
          go_simp
          with_reducible rfl
        simp only [Act.put, List.getElem_toArray, List.getElem_cons_zero, List.getElem_cons_succ, List.setIfInBounds_toArray, List.set_cons_zero, List.set_cons_succ]
        refine wpAnyH_take (i := 3) (v := ?_) rfl (by kernel_rfl) (by kernel_rfl) (by kernel_rfl) (fun _ _ _ h => h) (Or.inl ⟨by rfl, ?_⟩) hHeld ?_
        rotate_left
        · rintro w ⟨s0, s1, s2, s3, s4, s5⟩
          go_simp
          with_reducible rfl
        simp only [Act.put, List.getElem_toArray, List.getElem_cons_zero, List.getElem_cons_succ, List.setIfInBounds_toArray, List.set_cons_zero, List.set_cons_succ]
        refine wpAnyH_ready (rs := [4]) (by kernel_rfl) (by simp) ?_
        refine AllReadyH.cons rfl (fun K hK => ?_) AllReadyH.nil
        go_simp
        refine hK.out _ _ (HS.out _ (bdrewn (alloc_below _ _))) (fun hHeld => ?_)
        clear hK K
        refine wpAnyH_ready (rs := [5]) (by kernel_rfl) (by simp) ?_
        refine AllReadyH.cons rfl (fun K hK => ?_) AllReadyH.nil
        go_simp
        go_at_call 135
        refine (vright_b HR2.out (vrow2 (Blk.drew (blkAt (Blk.new _ _ _) (by simp))))).mono ?_
        rintro e w1 ⟨rfl, c1⟩
        go_wp2_with fail
        refine hK.out _ _ (HS.out _ (bthen (alloc_below _ _) (bdrew c1))) (fun hHeld => ?_)
        clear hK K
        refine wpAnyH_take (i := 6) (v := ?_) rfl (by kernel_rfl) (by kernel_rfl) (by kernel_rfl) (fun _ _ _ h => h) (Or.inl ⟨by rfl, ?_⟩) hHeld ?_
        rotate_left
        · intro w hSw
          go_simp
          with_reducible rfl
        simp only [Act.put, List.getElem_toArray, List.getElem_cons_zero, List.getElem_cons_succ, List.setIfInBounds_toArray, List.set_cons_zero, List.set_cons_succ]
        refine wpAnyH_take (i := 7) (v := ?_) rfl (by kernel_rfl) (by kernel_rfl) (by kernel_rfl) (fun _ _ _ h => h) (Or.inl ⟨by rfl, ?_⟩) hHeld ?_
        rotate_left
        · intro w hSw
          go_simp
          with_reducible rfl
        simp only [Act.put, List.getElem_toArray, List.getElem_cons_zero, List.getElem_cons_succ, List.setIfInBounds_toArray, List.set_cons_zero, List.set_cons_succ]
        refine wpAnyH_take (i := 8) (v := undef) rfl (by kernel_rfl) (by kernel_rfl) (by kernel_rfl) (fun _ _ _ h => h) (Or.inr ⟨by rfl, rfl⟩) hHeld ?_
        simp only [Act.put, List.getElem_toArray, List.getElem_cons_zero, List.getElem_cons_succ, List.setIfInBounds_toArray, List.set_cons_zero, List.set_cons_succ]
        refine wpAnyH_take (i := 9) (v := undef) rfl (by kernel_rfl) (by kernel_rfl) (by kernel_rfl) (fun _ _ _ h => h) (Or.inr ⟨by rfl, rfl⟩) hHeld ?_
        simp only [Act.put, List.getElem_toArray, List.getElem_cons_zero, List.getElem_cons_succ, List.setIfInBounds_toArray, List.set_cons_zero, List.set_cons_succ]
        refine wpAnyH_take (i := 10) (v := undef) rfl (by kernel_rfl) (by kernel_rfl) (by kernel_rfl) (fun _ _ _ h => h) (Or.inr ⟨by rfl, rfl⟩) hHeld ?_
        simp only [Act.put, List.getElem_toArray, List.getElem_cons_zero, List.getElem_cons_succ, List.setIfInBounds_toArray, List.set_cons_zero, List.set_cons_succ]
        refine wpAnyH_take (i := 11) (v := undef) rfl (by kernel_rfl) (by kernel_rfl) (by kernel_rfl) (fun _ _ _ h => h) (Or.inr ⟨by rfl, rfl⟩) hHeld ?_
        simp only [Act.put, List.getElem_toArray, List.getElem_cons_zero, List.getElem_cons_succ, List.setIfInBounds_toArray, List.set_cons_zero, List.set_cons_succ]
        refine wpAnyH_take (i := 12) (v := undef) rfl (by kernel_rfl) (by kernel_rfl) (by kernel_rfl) (fun _ _ _ h => h) (Or.inr ⟨by rfl, rfl⟩) hHeld ?_
        simp only [Act.put, List.getElem_toArray, List.getElem_cons_zero, List.getElem_cons_succ, List.setIfInBounds_toArray, List.set_cons_zero, List.set_cons_succ]
        refine wpAnyH_take (i := 13) (v := undef) rfl (by kernel_rfl) (by kernel_rfl) (by kernel_rfl) (fun _ _ _ h => h) (Or.inr ⟨by rfl, rfl⟩) hHeld ?_
        simp only [Act.put, List.getElem_toArray, List.getElem_cons_zero, List.getElem_cons_succ, List.setIfInBounds_toArray, List.set_cons_zero, List.set_cons_succ]
        refine wpAnyH_take (i := 14) (v := undef) rfl (by kernel_rfl) (by kernel_rfl) (by kernel_rfl) (fun _ _ _ h => h) (Or.inr ⟨by rfl, rfl⟩) hHeld ?_
        simp only [Act.put, List.getElem_toArray, List.getElem_cons_zero, List.getElem_cons_succ, List.setIfInBounds_toArray, List.set_cons_zero, List.set_cons_succ]
        refine wpAnyH_take (i := 15) (v := undef) rfl (by kernel_rfl) (by kernel_rfl) (by kernel_rfl) (fun _ _ _ h => h) (Or.inr ⟨by rfl, rfl⟩) hHeld ?_
        simp only [Act.put, List.getElem_toArray, List.getElem_cons_zero, List.getElem_cons_succ, List.setIfInBounds_toArray, List.set_cons_zero, List.set_cons_succ]
        refine wpAnyH_take (i := 16) (v := undef) rfl (by kernel_rfl) (by kernel_rfl) (by kernel_rfl) (fun _ _ _ h => h) (Or.inr ⟨by rfl, rfl⟩) hHeld ?_
        simp only [Act.put, List.getElem_toArray, List.getElem_cons_zero, List.getElem_cons_succ, List.setIfInBounds_toArray, List.set_cons_zero, List.set_cons_succ]
        refine wpAnyH_take (i := 17) (v := ?_) rfl (by kernel_rfl) (by kernel_rfl) (by kernel_rfl) (fun _ _ _ h => h) (Or.inl ⟨by rfl, ?_⟩) hHeld ?_
        rotate_left
        · intro w hSw
          go_simp
          with_reducible rfl
        simp only [Act.put, List.getElem_toArray, List.getElem_cons_zero, List.getElem_cons_succ, List.setIfInBounds_toArray, List.set_cons_zero, List.set_cons_succ]
        refine wpAnyH_done (by kernel_rfl) ?_ _
        clear hHeld
        have B2 := Lib.hid (bthen (balloc (balloc HB.out _) _) (bdrew c1))
        have HG := Lib.hid (show okBox B = false by rw [HOk.out, HR2.out]; rfl)
        clear c1 m0 m1 m2 m3 m4 m5
        go_wp2
        go_ret
        exact ⟨by rw [rightBx_bad HV.out HG.out]; rfl, B2.out⟩
    · obtain rfl : k = len := by omega
      go_wp2
      go_ret
      exact ⟨by rw [show Bs = Bs.take k from (List.take_of_length_le (by rw [HL.out]; exact Nat.le_refl _)).symm, HR.out]; rfl, HB.out⟩

/-- a slice of planes whose elements are 'Ps' -/
def PRow (w : World) (a : Option Addr) (len : Nat) (Ps : List (Nat → Int)) : Prop :=
  Ps.length = len ∧ len ≤ 9223372036854775807 ∧ (len = 0 ∨ ∃ b off, a = some ⟨b, off, none⟩ ∧ ∀ i, i < len → ∀ j, j < 4 → w.cell? ⟨b, off + i * 4 + j, none⟩ = some (.int .i64 (Ps.getD i zeroB j)))
theorem prow1 {w : World} {g : Nat} {t : TypeId} {P : Nat → Int} (h : Blk w g t #[.int .i64 (P 0), .int .i64 (P 1), .int .i64 (P 2), .int .i64 (P 3)]) : PRow w (some ⟨g, 0, none⟩) 1 [P] := by
  refine ⟨rfl, by omega, Or.inr ⟨_, _, rfl, fun i hi j hj => ?_⟩⟩
  obtain rfl : i = 0 := by omega
  obtain rfl | rfl | rfl | rfl : j = 0 ∨ j = 1 ∨ j = 2 ∨ j = 3 := by omega
  · exact h.cell 0
  · exact h.cell 1
  · exact h.cell 2
  · exact h.cell 3
theorem brow1 {w : World} {g : Nat} {t : TypeId} {B : Nat → Int} (h : Blk w g t #[.int .i64 (B 0), .int .i64 (B 1), .int .i64 (B 2), .int .i64 (B 3), .int .i64 (B 4), .int .i64 (B 5)]) : BRow w (some ⟨g, 0, none⟩) 1 [B] := by
  refine ⟨rfl, by omega, Or.inr ⟨_, _, rfl, fun i hi j hj => ?_⟩⟩
  obtain rfl : i = 0 := by omega
  rcases lt6 hj with rfl | rfl | rfl | rfl | rfl | rfl
  · exact h.cell 0
  · exact h.cell 1
  · exact h.cell 2
  · exact h.cell 3
  · exact h.cell 4
  · exact h.cell 5
theorem brow2 {w : World} {g : Nat} {t : TypeId} {B C : Nat → Int} (h : Blk w g t #[.int .i64 (B 0), .int .i64 (B 1), .int .i64 (B 2), .int .i64 (B 3), .int .i64 (B 4), .int .i64 (B 5), .int .i64 (C 0), .int .i64 (C 1), .int .i64 (C 2), .int .i64 (C 3), .int .i64 (C 4), .int .i64 (C 5)]) : BRow w (some ⟨g, 0, none⟩) 2 [B, C] := by
  refine ⟨rfl, by omega, Or.inr ⟨_, _, rfl, fun i hi j hj => ?_⟩⟩
  obtain rfl | rfl : i = 0 ∨ i = 1 := by omega
  · rcases lt6 hj with rfl | rfl | rfl | rfl | rfl | rfl
    · exact h.cell 0
    · exact h.cell 1
    · exact h.cell 2
    · exact h.cell 3
    · exact h.cell 4
    · exact h.cell 5
  · rcases lt6 hj with rfl | rfl | rfl | rfl | rfl | rfl
    · exact h.cell 6
    · exact h.cell 7
    · exact h.cell 8
    · exact h.cell 9
    · exact h.cell 10
    · exact h.cell 11

end Go.Proofs.YtcpgkkphibhdfaaGreat
/-
  What package shape's Distance and Span answer.
-/
namespace Go.Proofs.YtcpgkkphibhdfaaGreat
open Go.RowKit

theorem shright1 {B : Nat → Int} {b : Bool} (ho : okBox B = b) {w : World} {g cap : Nat} {t : TypeId} (h : Blk w g t #[.int .i64 (B 0), .int .i64 (B 1), .int .i64 (B 2), .int .i64 (B 3), .int .i64 (B 4), .int .i64 (B 5)]) :
    Calls Tryz.prog 103 #[.slice (some ⟨g, 0, none⟩) 1 cap] w fun e w' => e = .returned (.bool b) ∧ Below w.heap.size w w' :=
  (shright_any _ 1 cap [B] w (brow1 h)).mono fun _ _ ⟨he, hw⟩ => ⟨by rw [he]; unfold rightBx; simp [ho], hw⟩
theorem sh_mulV_comm (x y : Int) : mulV x y = mulV y x := by unfold mulV; rw [Bool.and_comm, Int.mul_comm]
theorem sh_mulE_comm (x y : Int) : mulE x y = mulE y x := by unfold mulE; rw [Bool.and_comm, Int.mul_comm]
theorem sh_ok6_comm (x0 x1 x2 y0 y1 y2 : Int) : ok6 x0 x1 x2 y0 y1 y2 = ok6 y0 y1 y2 x0 x1 x2 := by unfold ok6; rw [Bool.and_comm]
theorem sh_prodE_comm (x0 x1 x2 y0 y1 y2 : Int) : prodE x0 x1 x2 y0 y1 y2 = prodE y0 y1 y2 x0 x1 x2 := by unfold prodE; rw [sh_mulE_comm x0, sh_mulE_comm x1, sh_mulE_comm x2]
theorem sh_dotV_comm (x0 x1 x2 y0 y1 y2 : Int) : dotV x0 x1 x2 y0 y1 y2 = dotV y0 y1 y2 x0 x1 x2 := by unfold dotV; rw [sh_ok6_comm, sh_prodE_comm, sh_mulV_comm x0, sh_mulV_comm x1, sh_mulV_comm x2]
theorem sh_dotE_comm (x0 x1 x2 y0 y1 y2 : Int) : dotE x0 x1 x2 y0 y1 y2 = dotE y0 y1 y2 x0 x1 x2 := by unfold dotE; rw [sh_ok6_comm, sh_prodE_comm, sh_mulV_comm x0, sh_mulV_comm x1, sh_mulV_comm x2]

end Go.Proofs.YtcpgkkphibhdfaaGreat
