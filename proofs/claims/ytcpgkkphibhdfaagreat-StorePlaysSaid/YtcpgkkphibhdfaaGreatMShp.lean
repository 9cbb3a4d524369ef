/-
  12 texts in one file, each with its own heading.
-/
import Derived.Test.YtcpgkkphibhdfaaGreatMVec
import Derived.Test.YtcpgkkphibhdfaaGreatMAff
/-
  Boxes and planes as functions of the place (a box: Min at 0 to 2, Max at 3 to 5; a plane: N at 0 to 2, D at 3); whether they may be, and whether a vector is in a box, by the reference of layer 4.
-/
namespace Go.Proofs.YtcpgkkphibhdfaaGreat
open Go.RowKit

theorem lt6 {k : Nat} (hk : k < 6) : k = 0 ∨ k = 1 ∨ k = 2 ∨ k = 3 ∨ k = 4 ∨ k = 5 := by omega
theorem Blk.at6 {w : World} {g : Nat} {t : TypeId} {B : Nat → Int} (h : Blk w g t #[.int .i64 (B 0), .int .i64 (B 1), .int .i64 (B 2), .int .i64 (B 3), .int .i64 (B 4), .int .i64 (B 5)]) {k : Nat} (hk : k < 6) : w.cell? ⟨g, k, none⟩ = some (.int .i64 (B k)) := by
  rcases lt6 hk with rfl | rfl | rfl | rfl | rfl | rfl
  · exact h.cell 0
  · exact h.cell 1
  · exact h.cell 2
  · exact h.cell 3
  · exact h.cell 4
  · exact h.cell 5
/-- may a box be, by its first k places -/
def boxTo (B : Nat → Int) : Nat → Bool
  | 0 => rightV [(B 0, B 1, B 2), (B 3, B 4, B 5)]
  | k + 1 => boxTo B k && decide (B k ≤ B (3 + k))
def okBox (B : Nat → Int) : Bool := boxTo B 3
set_option maxHeartbeats 1000000 in
theorem rbox_any (B : Nat → Int) (w : World) :
    Calls Tryz.prog 98 #[.agg #[.int .i64 (B 0), .int .i64 (B 1), .int .i64 (B 2), .int .i64 (B 3), .int .i64 (B 4), .int .i64 (B 5)]] w fun e w' => e = .returned (.bool (okBox B)) ∧ Below w.heap.size w w' := by
  go_enter Tryz.func98, Tryz.ntmps98
  go_wp2_with fail
  refine (rvright_any _ _ _ [(B 0, B 1, B 2), (B 3, B 4, B 5)] _ (vrow2 (blkAt (Blk.new _ _ _) (by simp)))).mono ?_
  rintro e w1 ⟨rfl, b1⟩
  have KB := Lib.hid (((Blk.new w 42 _).alloc _).keep b1)
  have HB := Lib.hid (bthen (balloc (alloc_below _ _) _) b1)
  clear b1
  go_wp2
  go_loopw [3, 4] (fun r i wr => ∃ k : Nat, k ≤ 3 ∧ i = .int .i64 k ∧ r = .bool (boxTo B k) ∧ Blk wr w.heap.size 42 #[.int .i64 (B 0), .int .i64 (B 1), .int .i64 (B 2), .int .i64 (B 3), .int .i64 (B 4), .int .i64 (B 5)] ∧ Below w.heap.size w wr) (fun _ i _ => 3 - (intOf i).toNat)
  case atStart => exact ⟨0, by omega, rfl, rfl, KB.out, HB.out⟩
  case round =>
    clear KB HB
    obtain ⟨k, hk, rfl, rfl, hkb, hb⟩ := hrel
    have KB := Lib.hid hkb
    have HB := Lib.hid hb
    clear hkb hb
    by_cases hlt : k < 3
    · have cx := KB.out.at6 (k := k) (by omega)
      have cy := KB.out.at6 (k := 3 + k) (by omega)
      have HS : Hid (boxTo B (k + 1) = (boxTo B k && decide (B k ≤ B (3 + k)))) := Lib.hid rfl
      obtain ⟨x, hx⟩ : ∃ x, x = B k := ⟨_, rfl⟩
      obtain ⟨y, hy⟩ : ∃ y, y = B (3 + k) := ⟨_, rfl⟩
      obtain ⟨s, hs⟩ : ∃ s, s = boxTo B k := ⟨_, rfl⟩
      rw [← hx] at cx
      rw [← hy] at cy
      rw [← hx, ← hy, ← hs] at HS
      rw [← hs]
      clear hx hy hs
      have hk0 : (0 : Int) ≤ (k : Int) := by omega
      have hk3 : (k : Int) < 3 := by omega
      cases s
      · go_wp2
        go_quiet (fail)
        go_wp2
        go_roundw
        case rel => exact ⟨k + 1, by omega, by go_num, by rw [HS.out]; rfl, KB.out.drewN nq, Go.below_drewN HB.out nq⟩
        case measure => simp [intOf] <;> omega
      · go_wp2
        go_quiet (fail)
        go_wp2
        go_roundw
        case rel => exact ⟨k + 1, by omega, by go_num, by rw [HS.out]; rfl, KB.out.drewN nq, Go.below_drewN HB.out nq⟩
        case measure => simp [intOf] <;> omega
    · obtain rfl : k = 3 := by omega
      go_wp2
      go_ret
      exact ⟨rfl, HB.out⟩

end Go.Proofs.YtcpgkkphibhdfaaGreat
/-
  What the reference's ends of layer 4 answers: the least and the greatest sum of a row's numbers with a box's.
-/
namespace Go.Proofs.YtcpgkkphibhdfaaGreat
open Go.RowKit

/-- two lists that the call appends to lie in blocks of their own -/
def Apart (v u : Value) : Prop := ∀ k, v.ownBlock = some k → u.ownBlock ≠ some k
theorem Apart.symm {v u : Value} (h : Apart v u) : Apart u v := fun k h1 h2 => h k h2 h1
end Go.Proofs.YtcpgkkphibhdfaaGreat
/-
  What the reference's Distance and Span of layer 4 answer.
-/
namespace Go.Proofs.YtcpgkkphibhdfaaGreat
open Go.RowKit

theorem rbox_b {B : Nat → Int} {b : Bool} (h : okBox B = b) (w : World) :
    Calls Tryz.prog 98 #[.agg #[.int .i64 (B 0), .int .i64 (B 1), .int .i64 (B 2), .int .i64 (B 3), .int .i64 (B 4), .int .i64 (B 5)]] w fun e w' => e = .returned (.bool b) ∧ Below w.heap.size w w' := (rbox_any B w).mono fun _ _ ⟨he, hw⟩ => ⟨by rw [he, h], hw⟩
end Go.Proofs.YtcpgkkphibhdfaaGreat
/-
  What the reference's Carry of layer 4 answers.
-/
namespace Go.Proofs.YtcpgkkphibhdfaaGreat
open Go.RowKit

def r3 (x y z : Int) (j : Nat) : Int := [x, y, z].getD j 0
theorem rmright_c {M : Nat → Int} {b : Bool} (h : okM M = b) (w : World) :
    Calls Tryz.prog 97 #[.agg #[.int .i64 (M 0), .int .i64 (M 1), .int .i64 (M 2), .int .i64 (M 3), .int .i64 (M 4), .int .i64 (M 5), .int .i64 (M 6), .int .i64 (M 7), .int .i64 (M 8), .int .i64 (M 9), .int .i64 (M 10), .int .i64 (M 11)]] w fun e w' => e = .returned (.bool b) ∧ Below w.heap.size w w' := (rmright_any M w).mono fun _ _ ⟨he, hw⟩ => ⟨by rw [he, h], hw⟩

end Go.Proofs.YtcpgkkphibhdfaaGreat
/-
  Slices of boxes as lists; what the reference's Join of layer 4 answers.
-/
namespace Go.Proofs.YtcpgkkphibhdfaaGreat
open Go.ChangeShapes Go.WideShapes Go.ChangeAt Go.RowKit Go.Deep

/-! vectors that the call itself appends -/
def flatV (vs : List V3) : List Value := vs.flatMap fun v => [.int .i64 v.1, .int .i64 v.2.1, .int .i64 v.2.2]
theorem flatV_len (vs : List V3) : (flatV vs).length = vs.length * 3 := by
  induction vs with
  | nil => rfl
  | cons v r ih => unfold flatV at ih ⊢; simp [ih]; omega
theorem flatV_at : ∀ (vs : List V3) (i : Nat), i < vs.length → (flatV vs)[i * 3]? = some (.int .i64 (vs.getD i zeroV).1) ∧ (flatV vs)[i * 3 + 1]? = some (.int .i64 (vs.getD i zeroV).2.1) ∧ (flatV vs)[i * 3 + 2]? = some (.int .i64 (vs.getD i zeroV).2.2)
  | [], i, h => by simp at h
  | v :: r, 0, _ => by simp [flatV]
  | v :: r, i + 1, h => by
    have ih := flatV_at r i (by simpa using h)
    have e : flatV (v :: r) = [.int .i64 v.1, .int .i64 v.2.1, .int .i64 v.2.2] ++ flatV r := by simp [flatV]
    rw [e]
    have g : ∀ j, ([Value.int .i64 v.1, .int .i64 v.2.1, .int .i64 v.2.2] ++ flatV r)[(i + 1) * 3 + j]? = (flatV r)[i * 3 + j]? := fun j => by
      rw [List.getElem?_append_right (by simp; omega)]
      congr 1
      simp
      omega
    have g0 := g 0
    simp only [Nat.add_zero] at g0
    rw [g0, g 1, g 2]
    simpa using ih

def OwnV (w : World) (base : Nat) (v : Value) (n : Nat) (vs : List V3) : Prop := w.ownsRow base 40 3 v n (flatV vs)
theorem OwnV.row {w : World} {base : Nat} {v : Value} {n : Nat} {vs : List V3} (h : OwnV w base v n vs) : ∃ a cap, v = .slice a n cap ∧ VRow w a n vs := by
  have hl : vs.length = n := by have := h.1; rw [flatV_len] at this; omega
  rcases h.2 with ⟨rfl, rfl⟩ | ⟨g, cap, cur, rfl, hb, hh, hnc, hm, hs, ht⟩
  · exact ⟨none, 0, rfl, hl, by omega, Or.inl rfl⟩
  · unfold maxLen at hm
    refine ⟨_, cap, rfl, hl, by omega, Or.inr ⟨g, 0, rfl, fun i hi => ?_⟩⟩
    obtain ⟨f0, f1, f2⟩ := flatV_at vs i (by omega)
    rw [Nat.zero_add]
    exact ⟨(World.ownsRow.cellAt h _ (by omega)).trans f0, (World.ownsRow.cellAt h _ (by omega)).trans f1, (World.ownsRow.cellAt h _ (by omega)).trans f2⟩
def zeroB : Nat → Int := fun _ => 0
/-- a slice of boxes whose elements are 'Bs' -/
def BRow (w : World) (a : Option Addr) (len : Nat) (Bs : List (Nat → Int)) : Prop :=
  Bs.length = len ∧ len ≤ 9223372036854775807 ∧ (len = 0 ∨ ∃ b off, a = some ⟨b, off, none⟩ ∧ ∀ i, i < len → ∀ j, j < 6 → w.cell? ⟨b, off + i * 6 + j, none⟩ = some (.int .i64 (Bs.getD i zeroB j)))
theorem brow_keep {w w' : World} {a : Option Addr} {len : Nat} {Bs : List (Nat → Int)} (h : BRow w a len Bs) (hb : Below w.heap.size w w') : BRow w' a len Bs := by
  obtain ⟨h1, h2, h3⟩ := h
  refine ⟨h1, h2, ?_⟩
  rcases h3 with h3 | ⟨b, off, e, hc⟩
  · exact Or.inl h3
  · exact Or.inr ⟨b, off, e, fun i hi j hj => cell_keep (hc i hi j hj) hb⟩
theorem BRow.at_ {w : World} {a : Option Addr} {len k : Nat} {Bs : List (Nat → Int)} (h : BRow w a len Bs) (hk : k < len) :
    ∃ b off B, a = some ⟨b, off, none⟩ ∧ Bs[k]? = some B ∧ w.cell? ⟨b, off + k * 6, none⟩ = some (.int .i64 (B 0)) ∧ w.cell? ⟨b, off + k * 6 + 1, none⟩ = some (.int .i64 (B 1)) ∧ w.cell? ⟨b, off + k * 6 + 2, none⟩ = some (.int .i64 (B 2)) ∧ w.cell? ⟨b, off + k * 6 + 3, none⟩ = some (.int .i64 (B 3)) ∧ w.cell? ⟨b, off + k * 6 + 4, none⟩ = some (.int .i64 (B 4)) ∧ w.cell? ⟨b, off + k * 6 + 5, none⟩ = some (.int .i64 (B 5)) := by
  obtain ⟨h1, h2, h3⟩ := h
  rcases h3 with h3 | ⟨b, off, rfl, hc⟩
  · omega
  · have hk' : k < Bs.length := by omega
    have e : Bs.getD k zeroB = Bs[k] := by simp [List.getD, List.getElem?_eq_getElem hk']
    have c := hc k hk
    rw [e] at c
    exact ⟨b, off, _, rfl, List.getElem?_eq_getElem hk', c 0 (by omega), c 1 (by omega), c 2 (by omega), c 3 (by omega), c 4 (by omega), c 5 (by omega)⟩
def rightBx (Bs : List (Nat → Int)) : Bool := Bs.all okBox
theorem rightBx_bad {Bs : List (Nat → Int)} {k : Nat} {B : Nat → Int} (h : Bs[k]? = some B) (ho : okBox B = false) : rightBx Bs = false := by
  unfold rightBx
  rw [List.all_eq_false]
  exact ⟨B, List.mem_of_getElem? h, by simpa using ho⟩
theorem rightBx_succ {Bs : List (Nat → Int)} {k : Nat} {B : Nat → Int} (h : Bs[k]? = some B) (hr : rightBx (Bs.take k) = true) (ho : okBox B = true) : rightBx (Bs.take (k + 1)) = true := by
  unfold rightBx at hr ⊢
  rw [List.take_add_one, List.all_append, hr, h]
  simpa using ho
end Go.Proofs.YtcpgkkphibhdfaaGreat
/-
  Inside, as plain arithmetic: what lies between two numbers, its product lies between theirs; so with sums, with boxes carried, spans and joins.
-/
namespace Go.Proofs.YtcpgkkphibhdfaaGreat
open Go.RowKit

end Go.Proofs.YtcpgkkphibhdfaaGreat
/-
  Arguments that are boxes and planes, opened to their numbers.
-/
namespace Go.Proofs.YtcpgkkphibhdfaaGreat
open Go.ChangeShapes Go.WideShapes Go.ChangeAt Go.RowKit Go.Deep

/-- n cells that are numbers -/
def Nums (cs : List Value) (n : Nat) (M : Nat → Int) : Prop := ∀ i, i < n → cs[i]? = some (.int .i64 (M i))
theorem nums_piece {cs : List Value} {o n : Nat} {M : Nat → Int} (h : Nums ((cs.drop o).take n) n M) {i : Nat} (hi : i < n) : cs[o + i]? = some (.int .i64 (M i)) := by
  have := h i hi
  rw [List.getElem?_take, if_pos hi, List.getElem?_drop] at this
  exact this
theorem nums_join {cs : List Value} {n m : Nat} {M N : Nat → Int} (h : Nums ((cs.drop 0).take n) n M) (k : Nums ((cs.drop n).take m) m N) : Nums cs (n + m) (fun i => if i < n then M i else N (i - n)) := fun i hi => by
  show cs[i]? = some (.int .i64 (if i < n then M i else N (i - n)))
  by_cases c : i < n
  · rw [if_pos c]
    have := nums_piece h c
    rwa [Nat.zero_add] at this
  · rw [if_neg c]
    have := nums_piece k (i := i - n) (by omega)
    rwa [show n + (i - n) = i by omega] at this
section
variable {H : Type} {enc : TypeId × Value → H} {w : World} {base : Nat} {spare : Nat → Bool} {held : Bool}

theorem vec_nums {fuel : Nat} {cs : List Value} {x : DataW H × List MemPlace} (h : DataW.trod enc Tryz.prog w base spare held fuel 40 cs = some x) : ∃ M, Nums cs 3 M := by
  obtain ⟨M, hM⟩ := open_nums Tryz.underlying40 Tryz.underlying36 (by kernel_rfl) h
  exact ⟨M, fun i hi => (hM i hi).1⟩
theorem box_nums {fuel : Nat} {cs : List Value} {x : DataW H × List MemPlace} (h : DataW.trod enc Tryz.prog w base spare held fuel 42 cs = some x) : ∃ M, Nums cs 6 M := by
  obtain ⟨xs, n, _, _, _, hxl, hx⟩ := DataW.trod_struct Tryz.underlying42 h
  have hxl2 : xs.length = 2 := hxl
  have hC : Tryz.prog.cellsOf 40 = 3 := by kernel_rfl
  have h0 : DataW.trod enc Tryz.prog w base spare held n 40 ((cs.drop 0).take 3) = some (xs[0]'(by omega)) := by
    rw [← hC]; exact (hx 0 _ rfl).trans (List.getElem?_eq_getElem (by omega))
  have h1 : DataW.trod enc Tryz.prog w base spare held n 40 ((cs.drop 3).take 3) = some (xs[1]'(by omega)) := by
    have := (hx 1 _ rfl).trans (List.getElem?_eq_getElem (show 1 < xs.length by omega))
    exact (congrArg (fun c => DataW.trod enc Tryz.prog w base spare held n 40 ((cs.drop 3).take c)) hC.symm).trans this
  obtain ⟨M, hM⟩ := vec_nums h0
  obtain ⟨N, hN⟩ := vec_nums h1
  exact ⟨_, nums_join hM hN⟩
end
end Go.Proofs.YtcpgkkphibhdfaaGreat
/-
  '==' of two boxes that are the same.
-/
namespace Go.Proofs.YtcpgkkphibhdfaaGreat
open Go.RowKit

end Go.Proofs.YtcpgkkphibhdfaaGreat
/-
  What package shape's products, total and split answer.
-/
namespace Go.Proofs.YtcpgkkphibhdfaaGreat
open Go.RowKit

end Go.Proofs.YtcpgkkphibhdfaaGreat
/-
  What package shape's ends answers.
-/
namespace Go.Proofs.YtcpgkkphibhdfaaGreat
open Go.RowKit

theorem bet_less (a b : Int) : bet lessB a b = min a b := by
  unfold bet lessB
  by_cases c : b < a
  · rw [if_pos (by simpa using c)]; omega
  · rw [if_neg (by simpa using c)]; omega
theorem pick_xyz_l (a : Option Addr) (vs : List V3) (w : World) (p0 p1 p2 : Int) (hp : pk lessB vs = (p0, p1, p2)) (row : VRow w a 2 vs) :
    Calls Tryz.prog 136 #[.slice a 2 2] w fun e w' => e = .returned (.agg #[.int .i64 p0, .int .i64 p1, .int .i64 p2]) ∧ Below w.heap.size w w' :=
  (least_any a 2 2 vs w (by omega) (by omega) row).mono fun _ _ ⟨he, hw⟩ => ⟨by rw [he, hp]; rfl, hw⟩
end Go.Proofs.YtcpgkkphibhdfaaGreat
/-
  What package shape's Right, Plane and In answer.
-/
namespace Go.Proofs.YtcpgkkphibhdfaaGreat
open Go.RowKit

theorem okBox_as (B : Nat → Int) : okBox B = (rightV [(B 0, B 1, B 2), (B 3, B 4, B 5)] && (bet lessB (B 0) (B 3) == B 0 && bet lessB (B 1) (B 4) == B 1 && bet lessB (B 2) (B 5) == B 2)) := by
  have e : ∀ a b : Int, (bet lessB a b == a) = decide (a ≤ b) := fun a b => by
    rw [bet_less]
    by_cases c : a ≤ b
    · rw [show min a b = a by omega, decide_eq_true c]; simp
    · rw [decide_eq_false c]; simp; omega
  rw [e, e, e]
  unfold okBox boxTo boxTo boxTo boxTo
  cases rightV [(B 0, B 1, B 2), (B 3, B 4, B 5)] <;> simp [Bool.and_assoc]
theorem vright_b {a : Option Addr} {len cap : Nat} {vs : List V3} {w : World} {b : Bool} (hr : rightV vs = b) (row : VRow w a len vs) :
    Calls Tryz.prog 135 #[.slice a len cap] w fun e w' => e = .returned (.bool b) ∧ Below w.heap.size w w' :=
  (vright_any a len cap vs w row).mono fun _ _ ⟨he, hw⟩ => ⟨by rw [he, hr], hw⟩
set_option maxHeartbeats 2000000 in
theorem shright_any (a : Option Addr) (len cap : Nat) (Bs : List (Nat → Int)) (w : World) (row : BRow w a len Bs) :
    Calls Tryz.prog 103 #[.slice a len cap] w fun e w' => e = .returned (.bool (rightBx Bs)) ∧ Below w.heap.size w w' := by
  have HL := Lib.hid row.1
  have hbig := row.2.1
  have HRow := Lib.hid row
  clear row
  go_enter Tryz.func103, Tryz.ntmps103
  go_wp2
  go_loopw [4, 7] (fun _ i wr => ∃ k : Nat, k ≤ len ∧ i = .int .i64 k ∧ rightBx (Bs.take k) = true ∧ Below w.heap.size w wr) (fun _ i _ => len - (intOf i).toNat)
  case atStart => exact ⟨0, Nat.zero_le _, rfl, rfl, Below.refl _ _⟩
  case round =>
    obtain ⟨k, hk, rfl, hr, hb⟩ := hrel
    have HR := Lib.hid hr
    have HB := Lib.hid hb
    clear hr hb
    by_cases hlt : k < len
    · obtain ⟨b, off, B, rfl, hv, m0, m1, m2, m3, m4, m5⟩ := (brow_keep HRow.out HB.out).at_ hlt
      have HV := Lib.hid hv
      clear hv
      have HS : Hid (∀ w', Below (wr.alloc (.cells #[.int .i64 (B 0), .int .i64 (B 1), .int .i64 (B 2), .int .i64 (B 3), .int .i64 (B 4), .int .i64 (B 5)] 42)).heap.size (wr.alloc (.cells #[.int .i64 (B 0), .int .i64 (B 1), .int .i64 (B 2), .int .i64 (B 3), .int .i64 (B 4), .int .i64 (B 5)] 42)) w' → (w'.cell? ⟨wr.heap.size, 0, none⟩ = some (.int .i64 (B 0)) ∧ w'.cell? ⟨wr.heap.size, 1, none⟩ = some (.int .i64 (B 1)) ∧ w'.cell? ⟨wr.heap.size, 2, none⟩ = some (.int .i64 (B 2)) ∧ w'.cell? ⟨wr.heap.size, 3, none⟩ = some (.int .i64 (B 3)) ∧ w'.cell? ⟨wr.heap.size, 4, none⟩ = some (.int .i64 (B 4)) ∧ w'.cell? ⟨wr.heap.size, 5, none⟩ = some (.int .i64 (B 5)))) :=
        Lib.hid (fun w' hb => ⟨((Blk.new wr _ _).keep hb).cell 0, ((Blk.new wr _ _).keep hb).cell 1, ((Blk.new wr _ _).keep hb).cell 2, ((Blk.new wr _ _).keep hb).cell 3, ((Blk.new wr _ _).keep hb).cell 4, ((Blk.new wr _ _).keep hb).cell 5⟩)
      obtain ⟨p0, p1, p2, hp⟩ : ∃ p0 p1 p2, pk lessB [(B 0, B 1, B 2), (B 3, B 4, B 5)] = (p0, p1, p2) := ⟨_, _, _, rfl⟩
      have hok := okBox_as B
      obtain ⟨q0, hq⟩ : bet lessB (B 0) (B 3) = p0 ∧ bet lessB (B 1) (B 4) = p1 ∧ bet lessB (B 2) (B 5) = p2 := by
        have h3 : (bet lessB (B 0) (B 3), bet lessB (B 1) (B 4), bet lessB (B 2) (B 5)) = (p0, p1, p2) := hp
        simpa using h3
      rw [q0, hq.1, hq.2] at hok
      have HP := Lib.hid hp
      have HOk := Lib.hid hok
      clear hp hok q0 hq
      have heq := eqVec
      by_cases hr2 : rightV [(B 0, B 1, B 2), (B 3, B 4, B 5)] = true
      · have HR2 := Lib.hid hr2
        clear hr2
        by_cases hmn : (p0 == B 0 && p1 == B 1 && p2 == B 2) = true
        · go_wp2
          go_region_held3 (fun w' => w'.cell? ⟨wr.heap.size, 0, none⟩ = some (.int .i64 (B 0)) ∧ w'.cell? ⟨wr.heap.size, 1, none⟩ = some (.int .i64 (B 1)) ∧ w'.cell? ⟨wr.heap.size, 2, none⟩ = some (.int .i64 (B 2)) ∧ w'.cell? ⟨wr.heap.size, 3, none⟩ = some (.int .i64 (B 3)) ∧ w'.cell? ⟨wr.heap.size, 4, none⟩ = some (.int .i64 (B 4)) ∧ w'.cell? ⟨wr.heap.size, 5, none⟩ = some (.int .i64 (B 5)))
            (first | exact HS.out _ (bthen (balloc (bthen (alloc_below _ _) (bdrew c1)) _) c2) | exact HS.out _ (balloc (bthen (alloc_below _ _) (bdrew c1)) _) | exact HS.out _ (bthen (alloc_below _ _) (bdrew c1)) | exact HS.out _ (bdrewn (alloc_below _ _)) | exact HS.out _ (bdrewn (Below.refl _ _)))
            (first | (go_at_call 136; refine (pick_xyz_l _ _ _ p0 p1 p2 HP.out (vrow2 (Blk.new _ _ _))).mono ?_; rintro e w2 ⟨rfl, c2⟩) | (go_at_call 135; refine (vright_b HR2.out (vrow2 (Blk.drew (blkAt (Blk.new _ _ _) (by simp))))).mono ?_; rintro e w1 ⟨rfl, c1⟩))
          have B2 := Lib.hid (bthen (balloc (bthen (balloc (balloc HB.out _) _) (bdrew c1)) _) c2)
          have HG := Lib.hid (show okBox B = true by rw [HOk.out, HR2.out, hmn]; rfl)
          clear c1 c2 hmn m0 m1 m2 m3 m4 m5
          go_wp2
          go_roundw
          case rel => exact ⟨k + 1, by omega, by go_num, rightBx_succ HV.out HR.out HG.out, B2.out⟩
          case measure => simp [intOf] <;> omega
        · have hmn' : (p0 == B 0 && p1 == B 1 && p2 == B 2) = false := by simpa using hmn
          clear hmn
          go_wp2
          go_region_held3 (fun w' => w'.cell? ⟨wr.heap.size, 0, none⟩ = some (.int .i64 (B 0)) ∧ w'.cell? ⟨wr.heap.size, 1, none⟩ = some (.int .i64 (B 1)) ∧ w'.cell? ⟨wr.heap.size, 2, none⟩ = some (.int .i64 (B 2)) ∧ w'.cell? ⟨wr.heap.size, 3, none⟩ = some (.int .i64 (B 3)) ∧ w'.cell? ⟨wr.heap.size, 4, none⟩ = some (.int .i64 (B 4)) ∧ w'.cell? ⟨wr.heap.size, 5, none⟩ = some (.int .i64 (B 5)))
            (first | exact HS.out _ (bthen (balloc (bthen (alloc_below _ _) (bdrew c1)) _) c2) | exact HS.out _ (balloc (bthen (alloc_below _ _) (bdrew c1)) _) | exact HS.out _ (bthen (alloc_below _ _) (bdrew c1)) | exact HS.out _ (bdrewn (alloc_below _ _)) | exact HS.out _ (bdrewn (Below.refl _ _)))
            (first | (go_at_call 136; refine (pick_xyz_l _ _ _ p0 p1 p2 HP.out (vrow2 (Blk.new _ _ _))).mono ?_; rintro e w2 ⟨rfl, c2⟩) | (go_at_call 135; refine (vright_b HR2.out (vrow2 (Blk.drew (blkAt (Blk.new _ _ _) (by simp))))).mono ?_; rintro e w1 ⟨rfl, c1⟩))
          have B2 := Lib.hid (bthen (balloc (bthen (balloc (balloc HB.out _) _) (bdrew c1)) _) c2)
          have HG := Lib.hid (show okBox B = false by rw [HOk.out, HR2.out, hmn']; rfl)
          clear c1 c2 hmn' m0 m1 m2 m3 m4 m5
          go_wp2
          go_ret
          exact ⟨by rw [rightBx_bad HV.out HG.out]; rfl, B2.out⟩
      · have hr3 : rightV [(B 0, B 1, B 2), (B 3, B 4, B 5)] = false := by simpa using hr2
        have HR2 := Lib.hid hr3
        clear hr2 hr3
        go_wp2
        refine wp_region_held_drew (S := (fun w' => w'.cell? ⟨wr.heap.size, 0, none⟩ = some (.int .i64 (B 0)) ∧ w'.cell? ⟨wr.heap.size, 1, none⟩ = some (.int .i64 (B 1)) ∧ w'.cell? ⟨wr.heap.size, 2, none⟩ = some (.int .i64 (B 2)) ∧ w'.cell? ⟨wr.heap.size, 3, none⟩ = some (.int .i64 (B 3)) ∧ w'.cell? ⟨wr.heap.size, 4, none⟩ = some (.int .i64 (B 4)) ∧ w'.cell? ⟨wr.heap.size, 5, none⟩ = some (.int .i64 (B 5)))) (by kernel_rfl) (HS.out _ (bdrewn (Below.refl _ _))) (fun hHeld => ?_)
        refine wpAnyH_take (i := 0) (v := ?_) rfl (by kernel_rfl) (by kernel_rfl) (by kernel_rfl) (fun _ _ _ h => h) (Or.inl ⟨by rfl, ?_⟩) hHeld ?_
        rotate_left
        · rintro w ⟨s0, s1, s2, s3, s4, s5⟩
          go_simp
          with_reducible rfl
        simp only [Act.put, List.getElem_toArray, List.getElem_cons_zero, List.setIfInBounds_toArray, List.set_cons_zero, List.set_cons_succ]
        refine wpAnyH_take (i := 1) (v := ?_) rfl (by kernel_rfl) (by kernel_rfl) (by kernel_rfl) (fun _ _ _ h => h) (Or.inl ⟨by rfl, ?_⟩) hHeld ?_
        rotate_left
        · rintro w ⟨s0, s1, s2, s3, s4, s5⟩
          go_simp
          with_reducible rfl
        simp only [Act.put, List.getElem_toArray, List.getElem_cons_zero, List.getElem_cons_succ, List.setIfInBounds_toArray, List.set_cons_zero, List.set_cons_succ]
        refine wpAnyH_take (i := 2) (v := ?_) rfl (by kernel_rfl) (by kernel_rfl) (by kernel_rfl) (fun _ _ _ h => h) (Or.inl ⟨by rfl, ?_⟩) hHeld ?_
        rotate_left
        · rintro w ⟨s0, s1, s2, s3, s4, s5⟩
          go_simp
          with_reducible rfl
        simp only [Act.put, List.getElem_toArray, List.getElem_cons_zero, List.getElem_cons_succ, List.setIfInBounds_toArray, List.set_cons_zero, List.set_cons_succ]
        refine wpAnyH_take (i := 3) (v := ?_) rfl (by kernel_rfl) (by kernel_rfl) (by kernel_rfl) (fun _ _ _ h => h) (Or.inl ⟨by rfl, ?_⟩) hHeld ?_
        rotate_left
        · rintro w ⟨s0, s1, s2, s3, s4, s5⟩
          go_simp
          with_reducible rfl
        simp only [Act.put, List.getElem_toArray, List.getElem_cons_zero, List.getElem_cons_succ, List.setIfInBounds_toArray, List.set_cons_zero, List.set_cons_succ]
        refine wpAnyH_ready (rs := [4]) (by kernel_rfl) (by simp) ?_
        refine AllReadyH.cons rfl (fun K hK => ?_) AllReadyH.nil
        go_simp
        refine hK.out _ _ (HS.out _ (bdrewn (alloc_below _ _))) (fun hHeld => ?_)
        clear hK K
        refine wpAnyH_ready (rs := [5]) (by kernel_rfl) (by simp) ?_
        refine AllReadyH.cons rfl (fun K hK => ?_) AllReadyH.nil
        go_simp
        go_at_call 135
        refine (vright_b HR2.out (vrow2 (Blk.drew (blkAt (Blk.new _ _ _) (by simp))))).mono ?_
        rintro e w1 ⟨rfl, c1⟩
        go_wp2_with fail
        refine hK.out _ _ (HS.out _ (bthen (alloc_below _ _) (bdrew c1))) (fun hHeld => ?_)
        clear hK K
        refine wpAnyH_take (i := 6) (v := ?_) rfl (by kernel_rfl) (by kernel_rfl) (by kernel_rfl) (fun _ _ _ h => h) (Or.inl ⟨by rfl, ?_⟩) hHeld ?_
        rotate_left
        · intro w hSw
          go_simp
          with_reducible rfl
        simp only [Act.put, List.getElem_toArray, List.getElem_cons_zero, List.getElem_cons_succ, List.setIfInBounds_toArray, List.set_cons_zero, List.set_cons_succ]
        refine wpAnyH_take (i := 7) (v := ?_) rfl (by kernel_rfl) (by kernel_rfl) (by kernel_rfl) (fun _ _ _ h => h) (Or.inl ⟨by rfl, ?_⟩) hHeld ?_
        rotate_left
        · intro w hSw
          go_simp
          with_reducible rfl
        simp only [Act.put, List.getElem_toArray, List.getElem_cons_zero, List.getElem_cons_succ, List.setIfInBounds_toArray, List.set_cons_zero, List.set_cons_succ]
        refine wpAnyH_take (i := 8) (v := undef) rfl (by kernel_rfl) (by kernel_rfl) (by kernel_rfl) (fun _ _ _ h => h) (Or.inr ⟨by rfl, rfl⟩) hHeld ?_
        simp only [Act.put, List.getElem_toArray, List.getElem_cons_zero, List.getElem_cons_succ, List.setIfInBounds_toArray, List.set_cons_zero, List.set_cons_succ]
        refine wpAnyH_take (i := 9) (v := undef) rfl (by kernel_rfl) (by kernel_rfl) (by kernel_rfl) (fun _ _ _ h => h) (Or.inr ⟨by rfl, rfl⟩) hHeld ?_
        simp only [Act.put, List.getElem_toArray, List.getElem_cons_zero, List.getElem_cons_succ, List.setIfInBounds_toArray, List.set_cons_zero, List.set_cons_succ]
        refine wpAnyH_take (i := 10) (v := undef) rfl (by kernel_rfl) (by kernel_rfl) (by kernel_rfl) (fun _ _ _ h => h) (Or.inr ⟨by rfl, rfl⟩) hHeld ?_
        simp only [Act.put, List.getElem_toArray, List.getElem_cons_zero, List.getElem_cons_succ, List.setIfInBounds_toArray, List.set_cons_zero, List.set_cons_succ]
        refine wpAnyH_take (i := 11) (v := undef) rfl (by kernel_rfl) (by kernel_rfl) (by kernel_rfl) (fun _ _ _ h => h) (Or.inr ⟨by rfl, rfl⟩) hHeld ?_
        simp only [Act.put, List.getElem_toArray, List.getElem_cons_zero, List.getElem_cons_succ, List.setIfInBounds_toArray, List.set_cons_zero, List.set_cons_succ]
        refine wpAnyH_take (i := 12) (v := undef) rfl (by kernel_rfl) (by kernel_rfl) (by kernel_rfl) (fun _ _ _ h => h) (Or.inr ⟨by rfl, rfl⟩) hHeld ?_
        simp only [Act.put, List.getElem_toArray, List.getElem_cons_zero, List.getElem_cons_succ, List.setIfInBounds_toArray, List.set_cons_zero, List.set_cons_succ]
        refine wpAnyH_take (i := 13) (v := undef) rfl (by kernel_rfl) (by kernel_rfl) (by kernel_rfl) (fun _ _ _ h => h) (Or.inr ⟨by rfl, rfl⟩) hHeld ?_
        simp only [Act.put, List.getElem_toArray, List.getElem_cons_zero, List.getElem_cons_succ, List.setIfInBounds_toArray, List.set_cons_zero, List.set_cons_succ]
        refine wpAnyH_take (i := 14) (v := undef) rfl (by kernel_rfl) (by kernel_rfl) (by kernel_rfl) (fun _ _ _ h => h) (Or.inr ⟨by rfl, rfl⟩) hHeld ?_
        simp only [Act.put, List.getElem_toArray, List.getElem_cons_zero, List.getElem_cons_succ, List.setIfInBounds_toArray, List.set_cons_zero, List.set_cons_succ]
        refine wpAnyH_take (i := 15) (v := undef) rfl (by kernel_rfl) (by kernel_rfl) (by kernel_rfl) (fun _ _ _ h => h) (Or.inr ⟨by rfl, rfl⟩) hHeld ?_
        simp only [Act.put, List.getElem_toArray, List.getElem_cons_zero, List.getElem_cons_succ, List.setIfInBounds_toArray, List.set_cons_zero, List.set_cons_succ]
        refine wpAnyH_take (i := 16) (v := undef) rfl (by kernel_rfl) (by kernel_rfl) (by kernel_rfl) (fun _ _ _ h => h) (Or.inr ⟨by rfl, rfl⟩) hHeld ?_
        simp only [Act.put, List.getElem_toArray, List.getElem_cons_zero, List.getElem_cons_succ, List.setIfInBounds_toArray, List.set_cons_zero, List.set_cons_succ]
        refine wpAnyH_take (i := 17) (v := ?_) rfl (by kernel_rfl) (by kernel_rfl) (by kernel_rfl) (fun _ _ _ h => h) (Or.inl ⟨by rfl, ?_⟩) hHeld ?_
        rotate_left
        · intro w hSw
          go_simp
          with_reducible rfl
        simp only [Act.put, List.getElem_toArray, List.getElem_cons_zero, List.getElem_cons_succ, List.setIfInBounds_toArray, List.set_cons_zero, List.set_cons_succ]
        refine wpAnyH_done (by kernel_rfl) ?_ _
        clear hHeld
        have B2 := Lib.hid (bthen (balloc (balloc HB.out _) _) (bdrew c1))
        have HG := Lib.hid (show okBox B = false by rw [HOk.out, HR2.out]; rfl)
        clear c1 m0 m1 m2 m3 m4 m5
        go_wp2
        go_ret
        exact ⟨by rw [rightBx_bad HV.out HG.out]; rfl, B2.out⟩
    · obtain rfl : k = len := by omega
      go_wp2
      go_ret
      exact ⟨by rw [show Bs = Bs.take k from (List.take_of_length_le (by rw [HL.out]; exact Nat.le_refl _)).symm, HR.out]; rfl, HB.out⟩

theorem brow1 {w : World} {g : Nat} {t : TypeId} {B : Nat → Int} (h : Blk w g t #[.int .i64 (B 0), .int .i64 (B 1), .int .i64 (B 2), .int .i64 (B 3), .int .i64 (B 4), .int .i64 (B 5)]) : BRow w (some ⟨g, 0, none⟩) 1 [B] := by
  refine ⟨rfl, by omega, Or.inr ⟨_, _, rfl, fun i hi j hj => ?_⟩⟩
  obtain rfl : i = 0 := by omega
  rcases lt6 hj with rfl | rfl | rfl | rfl | rfl | rfl
  · exact h.cell 0
  · exact h.cell 1
  · exact h.cell 2
  · exact h.cell 3
  · exact h.cell 4
  · exact h.cell 5
end Go.Proofs.YtcpgkkphibhdfaaGreat
/-
  What package shape's Distance and Span answer.
-/
namespace Go.Proofs.YtcpgkkphibhdfaaGreat
open Go.RowKit

theorem shright1 {B : Nat → Int} {b : Bool} (ho : okBox B = b) {w : World} {g cap : Nat} {t : TypeId} (h : Blk w g t #[.int .i64 (B 0), .int .i64 (B 1), .int .i64 (B 2), .int .i64 (B 3), .int .i64 (B 4), .int .i64 (B 5)]) :
    Calls Tryz.prog 103 #[.slice (some ⟨g, 0, none⟩) 1 cap] w fun e w' => e = .returned (.bool b) ∧ Below w.heap.size w w' :=
  (shright_any _ 1 cap [B] w (brow1 h)).mono fun _ _ ⟨he, hw⟩ => ⟨by rw [he]; unfold rightBx; simp [ho], hw⟩
end Go.Proofs.YtcpgkkphibhdfaaGreat
