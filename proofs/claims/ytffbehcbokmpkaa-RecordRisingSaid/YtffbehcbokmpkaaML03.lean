/-
  10 texts in one file, each with its own heading.
-/
import Derived.Test.YtffbehcbokmpkaaML02
/-
  What the reference's Carry of layer 4 answers.
-/
namespace Go.Proofs.Ytffbehcbokmpkaa
open Go.RowKit

def rowM (M : Nat → Int) (r k : Nat) : Int := M (4 * r + k)
def caLo (M B : Nat → Int) (r : Nat) : Int := enLo (rowM M r) B (M (4 * r + 3))
def caHi (M B : Nat → Int) (r : Nat) : Int := enHi (rowM M r) B (M (4 * r + 3))
def caE (M B : Nat → Int) (r : Nat) : Int := enE (rowM M r) B (M (4 * r + 3))
def caK (M B : Nat → Int) (k : Nat) : Int := if k < 3 then caLo M B k else caHi M B (k - 3)
def carOk (M B : Nat → Int) : Bool := okM M && okBox B
def carE (M B : Nat → Int) : Int := if carOk M B then first3 (caE M B 0) (caE M B 1) (caE M B 2) else 1
def carV (M B : Nat → Int) (k : Nat) : Int := gate (carE M B) (caK M B k)
theorem carE_yes {M B : Nat → Int} (h : okM M = true) (h' : okBox B = true) : carE M B = first3 (caE M B 0) (caE M B 1) (caE M B 2) := by unfold carE carOk; rw [h, h']; rfl
theorem carE_no {M B : Nat → Int} (h : carOk M B = false) : carE M B = 1 := by unfold carE; rw [h]; rfl
theorem carV_no {M B : Nat → Int} (h : carOk M B = false) (k : Nat) : carV M B k = 0 := by unfold carV; rw [carE_no h]; rfl
theorem carV_of {M B : Nat → Int} {e : Int} (h : carE M B = e) (k : Nat) : carV M B k = gate e (caK M B k) := by unfold carV; rw [h]

theorem bset6 {w a : World} {g : Nat} {u0 u1 u2 u3 u4 u5 : Value} (h : Below w.heap.size w a) (hg : w.heap.size ≤ g) : Below w.heap.size w ((((((a.setCell ⟨g, 0, none⟩ u0).setCell ⟨g, 1, none⟩ u1).setCell ⟨g, 2, none⟩ u2).setCell ⟨g, 3, none⟩ u3).setCell ⟨g, 4, none⟩ u4).setCell ⟨g, 5, none⟩ u5) :=
  (((((h.setCell hg _).setCell hg _).setCell hg _).setCell hg _).setCell hg _).setCell hg _
def rowsTo (f : Nat → Int) (r j : Nat) : Value := if j % 3 < r then .int .i64 (f j) else .int .i64 0
theorem rows_start (w : World) (t : TypeId) (f : Nat → Int) : (w.alloc (.cells #[.int .i64 0, .int .i64 0, .int .i64 0, .int .i64 0, .int .i64 0, .int .i64 0] t)).rowIs w.heap.size t 6 (rowsTo f 0) := by
  refine (World.rowIs_alloc w _ t (rowsTo f 0) (fun i hi => ?_))
  rcases lt6 (k := i) (by simpa using hi) with rfl | rfl | rfl | rfl | rfl | rfl <;> rfl
theorem rows_step (f : Nat → Int) {r j : Nat} (hr : r < 3) (hj : j < 6) : (if j = 3 + r then Value.int .i64 (f (3 + r)) else if j = r then .int .i64 (f r) else rowsTo f r j) = rowsTo f (r + 1) j := by
  unfold rowsTo
  by_cases e1 : j = 3 + r
  · rw [if_pos e1, if_pos (by omega), e1]
  · rw [if_neg e1]
    by_cases e2 : j = r
    · rw [if_pos e2, if_pos (by omega), e2]
    · rw [if_neg e2]
      by_cases e3 : j % 3 < r
      · rw [if_pos e3, if_pos (by omega)]
      · rw [if_neg e3, if_neg (by omega)]

def r3 (x y z : Int) (j : Nat) : Int := [x, y, z].getD j 0
end Go.Proofs.Ytffbehcbokmpkaa
namespace Go.Proofs.Ytffbehcbokmpkaa
open Go.ChangeShapes Go.WideShapes Go.ChangeAt Go.RowKit Go.Deep

def zeroB : Nat → Int := fun _ => 0
def BRow (w : World) (a : Option Addr) (len : Nat) (Bs : List (Nat → Int)) : Prop :=
  Bs.length = len ∧ len ≤ 9223372036854775807 ∧ (len = 0 ∨ ∃ b off, a = some ⟨b, off, none⟩ ∧ ∀ i, i < len → ∀ j, j < 6 → w.cell? ⟨b, off + i * 6 + j, none⟩ = some (.int .i64 (Bs.getD i zeroB j)))
theorem brow_keep {w w' : World} {a : Option Addr} {len : Nat} {Bs : List (Nat → Int)} (h : BRow w a len Bs) (hb : Below w.heap.size w w') : BRow w' a len Bs := by
  obtain ⟨h1, h2, h3⟩ := h
  refine ⟨h1, h2, ?_⟩
  rcases h3 with h3 | ⟨b, off, e, hc⟩
  · exact Or.inl h3
  · exact Or.inr ⟨b, off, e, fun i hi j hj => cell_keep (hc i hi j hj) hb⟩
theorem BRow.at_ {w : World} {a : Option Addr} {len k : Nat} {Bs : List (Nat → Int)} (h : BRow w a len Bs) (hk : k < len) :
    ∃ b off B, a = some ⟨b, off, none⟩ ∧ Bs[k]? = some B ∧ w.cell? ⟨b, off + k * 6, none⟩ = some (.int .i64 (B 0)) ∧ w.cell? ⟨b, off + k * 6 + 1, none⟩ = some (.int .i64 (B 1)) ∧ w.cell? ⟨b, off + k * 6 + 2, none⟩ = some (.int .i64 (B 2)) ∧ w.cell? ⟨b, off + k * 6 + 3, none⟩ = some (.int .i64 (B 3)) ∧ w.cell? ⟨b, off + k * 6 + 4, none⟩ = some (.int .i64 (B 4)) ∧ w.cell? ⟨b, off + k * 6 + 5, none⟩ = some (.int .i64 (B 5)) := by
  obtain ⟨h1, h2, h3⟩ := h
  rcases h3 with h3 | ⟨b, off, rfl, hc⟩
  · omega
  · have hk' : k < Bs.length := by omega
    have e : Bs.getD k zeroB = Bs[k] := by simp [List.getD, List.getElem?_eq_getElem hk']
    have c := hc k hk
    rw [e] at c
    exact ⟨b, off, _, rfl, List.getElem?_eq_getElem hk', c 0 (by omega), c 1 (by omega), c 2 (by omega), c 3 (by omega), c 4 (by omega), c 5 (by omega)⟩
def rightBx (Bs : List (Nat → Int)) : Bool := Bs.all okBox
theorem rightBx_bad {Bs : List (Nat → Int)} {k : Nat} {B : Nat → Int} (h : Bs[k]? = some B) (ho : okBox B = false) : rightBx Bs = false := by
  unfold rightBx
  rw [List.all_eq_false]
  exact ⟨B, List.mem_of_getElem? h, by simpa using ho⟩
theorem rightBx_succ {Bs : List (Nat → Int)} {k : Nat} {B : Nat → Int} (h : Bs[k]? = some B) (hr : rightBx (Bs.take k) = true) (ho : okBox B = true) : rightBx (Bs.take (k + 1)) = true := by
  unfold rightBx at hr ⊢
  rw [List.take_add_one, List.all_append, hr, h]
  simpa using ho
end Go.Proofs.Ytffbehcbokmpkaa
namespace Go.Proofs.Ytffbehcbokmpkaa
open Go.RowKit

theorem fin {Q : World → Prop} {W : World} (P : World → Prop) (h : P W) (k : ∀ W', P W' → Q W') : Q W := k W h
theorem bdrewn {n : Nat} {w a : World} (h : Below n w a) : Below n w a.drew := ⟨h.os, h.tape, h.output, h.size, h.block⟩

set_option maxHeartbeats 1000000 in
theorem rdiag_xyz (x y z : Int) (w : World) :
    Calls Try.prog 40 #[.agg #[.int .i64 x, .int .i64 y, .int .i64 z]] w fun e w' => e = .returned (.agg #[.int .i64 x, .int .i64 0, .int .i64 0, .int .i64 0, .int .i64 0, .int .i64 y, .int .i64 0, .int .i64 0, .int .i64 0, .int .i64 0, .int .i64 z, .int .i64 0]) ∧ Below w.heap.size w w' := by
  go_enter Try.func40, Try.ntmps40
  go_wp2
  refine wp_loop_rounds 4 ?_
  rw [rounds_succ]
  go_wp2
  rw [rounds_succ]
  go_wp2
  rw [rounds_succ]
  go_wp2
  rw [rounds_succ]
  go_wp2
  exact bodyPost_ret (v := .agg #[.int .i64 x, .int .i64 0, .int .i64 0, .int .i64 0, .int .i64 0, .int .i64 y, .int .i64 0, .int .i64 0, .int .i64 0, .int .i64 0, .int .i64 z, .int .i64 0]) (by simp [results, Try.results40, go_sem]) rfl ⟨rfl, balloc (balloc (alloc_below _ _) _) _⟩

set_option maxHeartbeats 1000000 in
theorem rsame_any (w : World) :
    Calls Try.prog 23 #[] w fun e w' => e = .returned (.agg #[.int .i64 65536, .int .i64 0, .int .i64 0, .int .i64 0, .int .i64 0, .int .i64 65536, .int .i64 0, .int .i64 0, .int .i64 0, .int .i64 0, .int .i64 65536, .int .i64 0]) ∧ Below w.heap.size w w' := by
  go_enter Try.func23, Try.ntmps23
  go_wp2_with fail
  refine (rdiag_xyz 65536 65536 65536 _).mono ?_
  rintro e w1 ⟨rfl, b1⟩
  have K1 := Lib.hid ((Blk.new w 26 _).keep b1)
  have B1 := Lib.hid (bthen (alloc_below _ _) b1)
  clear b1
  obtain ⟨c0, c1, c2, c3, c4, c5, c6, c7, c8, c9, c10, c11, f0, f1, f2, f3, f4, f5, f6, f7, f8, f9, f10, f11⟩ := blk12 K1.out
  go_wp2
  exact bodyPost_ret (v := .agg #[.int .i64 65536, .int .i64 0, .int .i64 0, .int .i64 0, .int .i64 0, .int .i64 65536, .int .i64 0, .int .i64 0, .int .i64 0, .int .i64 0, .int .i64 65536, .int .i64 0]) (by simp [results, Try.results23, go_sem, c0, c1, c2, c3, c4, c5, c6, c7, c8, c9, c10, c11]) rfl ⟨rfl, bset12 B1.out (by omega)⟩

set_option maxHeartbeats 1000000 in
theorem rmove_xyz (x y z : Int) (w : World) :
    Calls Try.prog 24 #[.agg #[.int .i64 x, .int .i64 y, .int .i64 z]] w fun e w' => e = .returned (.agg #[.int .i64 65536, .int .i64 0, .int .i64 0, .int .i64 x, .int .i64 0, .int .i64 65536, .int .i64 0, .int .i64 y, .int .i64 0, .int .i64 0, .int .i64 65536, .int .i64 z]) ∧ Below w.heap.size w w' := by
  go_enter Try.func24, Try.ntmps24
  go_wp2_with fail
  refine (rsame_any _).mono ?_
  rintro e w1 ⟨rfl, b1⟩
  have K1 := Lib.hid (blkAt ((Blk.new (w.alloc _) 26 _).keep b1) (g' := w.heap.size + 1) (by simp))
  have L1 := Lib.hid (((Blk.new w 28 _).alloc _).keep b1)
  have B1 := Lib.hid (bthen (balloc (alloc_below _ _) _) b1)
  clear b1
  obtain ⟨d0, d1, d2, _, _, _⟩ := blk3 L1.out
  have z2 := L1.out.lt
  go_wp2
  refine wp_loop_rounds 4 ?_
  rw [rounds_succ]
  go_wp2
  rw [rounds_succ]
  go_wp2
  rw [rounds_succ]
  go_wp2
  rw [rounds_succ]
  clear d0 d1 d2 z2
  refine fin (fun W => Blk W (w.heap.size + 1) 26 #[.int .i64 0, .int .i64 0, .int .i64 0, .int .i64 0, .int .i64 0, .int .i64 0, .int .i64 0, .int .i64 0, .int .i64 0, .int .i64 0, .int .i64 0, .int .i64 0] ∧ Blk W w1.heap.size 26 #[.int .i64 65536, .int .i64 0, .int .i64 0, .int .i64 x, .int .i64 0, .int .i64 65536, .int .i64 0, .int .i64 y, .int .i64 0, .int .i64 0, .int .i64 65536, .int .i64 z] ∧ Below w.heap.size w W) ⟨K1.out.alloc _, Blk.new w1 _ _, balloc B1.out _⟩ ?_
  rintro W ⟨hk, hm, hb⟩
  have HB := Lib.hid hb
  clear hb
  obtain ⟨c0, c1, c2, c3, c4, c5, c6, c7, c8, c9, c10, c11, f0, f1, f2, f3, f4, f5, f6, f7, f8, f9, f10, f11⟩ := blk12 hk
  obtain ⟨d0, d1, d2, d3, d4, d5, d6, d7, d8, d9, d10, d11, _, _, _, _, _, _, _, _, _, _, _, _⟩ := blk12 hm
  go_wp2
  exact bodyPost_ret (v := .agg #[.int .i64 65536, .int .i64 0, .int .i64 0, .int .i64 x, .int .i64 0, .int .i64 65536, .int .i64 0, .int .i64 y, .int .i64 0, .int .i64 0, .int .i64 65536, .int .i64 z]) (by simp [results, Try.results24, go_sem, c0, c1, c2, c3, c4, c5, c6, c7, c8, c9, c10, c11]) rfl ⟨rfl, bset12 HB.out (by omega)⟩

theorem rowIs_at {w : World} {b b' : Nat} {t : TypeId} {n : Nat} {f : Nat → Value} (h : w.rowIs b t n f) (e : b = b') : w.rowIs b' t n f := e ▸ h

theorem rangeM {w : World} {g : Nat} {t : TypeId} {A : Nat → Int} (hA : Blk w g t #[.int .i64 (A 0), .int .i64 (A 1), .int .i64 (A 2), .int .i64 (A 3), .int .i64 (A 4), .int .i64 (A 5), .int .i64 (A 6), .int .i64 (A 7), .int .i64 (A 8), .int .i64 (A 9), .int .i64 (A 10), .int .i64 (A 11)]) : w.rangeAt g 0 [.int .i64 (A 0), .int .i64 (A 1), .int .i64 (A 2), .int .i64 (A 3), .int .i64 (A 4), .int .i64 (A 5), .int .i64 (A 6), .int .i64 (A 7), .int .i64 (A 8), .int .i64 (A 9), .int .i64 (A 10), .int .i64 (A 11)] := fun j v hv => by
  rw [Nat.zero_add, hA.cell j]
  simpa using hv
theorem sizeM (A : Nat → Int) : (Try.prog.info? 26).map (·.size) = some ([.int .i64 (A 0), .int .i64 (A 1), .int .i64 (A 2), .int .i64 (A 3), .int .i64 (A 4), .int .i64 (A 5), .int .i64 (A 6), .int .i64 (A 7), .int .i64 (A 8), .int .i64 (A 9), .int .i64 (A 10), .int .i64 (A 11)] : List Value).length := by kernel_rfl

def v3 (x y z : Int) (j : Nat) : Int := [x, y, z].getD j 0
theorem mrow1 {w : World} {g : Nat} {t : TypeId} {M : Nat → Int} (h : Blk w g t #[.int .i64 (M 0), .int .i64 (M 1), .int .i64 (M 2), .int .i64 (M 3), .int .i64 (M 4), .int .i64 (M 5), .int .i64 (M 6), .int .i64 (M 7), .int .i64 (M 8), .int .i64 (M 9), .int .i64 (M 10), .int .i64 (M 11)]) : MRow w (some ⟨g, 0, none⟩) 1 [M] := by
  refine ⟨rfl, by omega, Or.inr ⟨_, _, rfl, fun i hi j hj => ?_⟩⟩
  obtain rfl : i = 0 := by omega
  have := h.at12 hj
  simpa using this
theorem mright1 {M : Nat → Int} {b : Bool} (ho : okM M = b) {w : World} {g cap : Nat} {t : TypeId} (h : Blk w g t #[.int .i64 (M 0), .int .i64 (M 1), .int .i64 (M 2), .int .i64 (M 3), .int .i64 (M 4), .int .i64 (M 5), .int .i64 (M 6), .int .i64 (M 7), .int .i64 (M 8), .int .i64 (M 9), .int .i64 (M 10), .int .i64 (M 11)]) :
    Calls Try.prog 32 #[.slice (some ⟨g, 0, none⟩) 1 cap] w fun e w' => e = .returned (.bool b) ∧ Below w.heap.size w w' :=
  (mright_any _ 1 cap [M] w (mrow1 h)).mono fun _ _ ⟨he, hw⟩ => ⟨by rw [he]; unfold rightM; simp [ho], hw⟩
end Go.Proofs.Ytffbehcbokmpkaa
