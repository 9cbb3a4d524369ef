/-
  13 texts in one file, each with its own heading.
-/
import Derived.Test.YtjcibffhlhdjeaaMU02
/-
  What the reference's Distance and Span of layer 4 answer.
-/
namespace Go.Proofs.Ytjcibffhlhdjeaa
open Go.RowKit

def spnOk (P B : Nat → Int) : Bool := okPlane P && okBox B
def spnE (P B : Nat → Int) : Int := if spnOk P B then enE P B (P 3) else 1
def spnLo (P B : Nat → Int) : Int := if spnOk P B then enLo P B (P 3) else 0
def spnHi (P B : Nat → Int) : Int := if spnOk P B then enHi P B (P 3) else 0

theorem blk4 {w : World} {g : Nat} {t : TypeId} {x0 x1 x2 x3 : Value} (h : Blk w g t #[x0, x1, x2, x3]) : w.cell? ⟨g, 0, none⟩ = some x0 ∧ w.cell? ⟨g, 1, none⟩ = some x1 ∧ w.cell? ⟨g, 2, none⟩ = some x2 ∧ w.cell? ⟨g, 3, none⟩ = some x3 := ⟨h.cell 0, h.cell 1, h.cell 2, h.cell 3⟩
theorem blk6 {w : World} {g : Nat} {t : TypeId} {x0 x1 x2 x3 x4 x5 : Value} (h : Blk w g t #[x0, x1, x2, x3, x4, x5]) : w.cell? ⟨g, 0, none⟩ = some x0 ∧ w.cell? ⟨g, 1, none⟩ = some x1 ∧ w.cell? ⟨g, 2, none⟩ = some x2 ∧ w.cell? ⟨g, 3, none⟩ = some x3 ∧ w.cell? ⟨g, 4, none⟩ = some x4 ∧ w.cell? ⟨g, 5, none⟩ = some x5 ∧
    w.frozen? ⟨g, 0, none⟩ = false ∧ w.frozen? ⟨g, 1, none⟩ = false ∧ w.frozen? ⟨g, 2, none⟩ = false ∧ w.frozen? ⟨g, 3, none⟩ = false ∧ w.frozen? ⟨g, 4, none⟩ = false ∧ w.frozen? ⟨g, 5, none⟩ = false :=
  ⟨h.cell 0, h.cell 1, h.cell 2, h.cell 3, h.cell 4, h.cell 5, h.frozen 0, h.frozen 1, h.frozen 2, h.frozen 3, h.frozen 4, h.frozen 5⟩
theorem rplane_b {P : Nat → Int} {b : Bool} (h : okPlane P = b) (w : World) :
    Calls Try.prog 44 #[.agg #[.int .i64 (P 0), .int .i64 (P 1), .int .i64 (P 2), .int .i64 (P 3)]] w fun e w' => e = .returned (.bool b) ∧ Below w.heap.size w w' := (rplane_any P w).mono fun _ _ ⟨he, hw⟩ => ⟨by rw [he, h], hw⟩
theorem rbox_b {B : Nat → Int} {b : Bool} (h : okBox B = b) (w : World) :
    Calls Try.prog 72 #[.agg #[.int .i64 (B 0), .int .i64 (B 1), .int .i64 (B 2), .int .i64 (B 3), .int .i64 (B 4), .int .i64 (B 5)]] w fun e w' => e = .returned (.bool b) ∧ Below w.heap.size w w' := (rbox_any B w).mono fun _ _ ⟨he, hw⟩ => ⟨by rw [he, h], hw⟩
set_option maxHeartbeats 1000000 in
theorem rspan_no (P B : Nat → Int) (a b : Bool) (w : World) (h : okPlane P = a) (h' : okBox B = b) (hab : (a = false ∧ b = false) ∨ (a = false ∧ b = true) ∨ (a = true ∧ b = false)) :
    Calls Try.prog 57 #[.agg #[.int .i64 (P 0), .int .i64 (P 1), .int .i64 (P 2), .int .i64 (P 3)], .agg #[.int .i64 (B 0), .int .i64 (B 1), .int .i64 (B 2), .int .i64 (B 3), .int .i64 (B 4), .int .i64 (B 5)]] w fun e w' => e = .returned (.tuple #[.int .i64 0, .int .i64 0, .int .i64 1]) ∧ Below w.heap.size w w' := by
  have HO := Lib.hid (And.intro h h')
  clear h h'
  rcases hab with ⟨rfl, rfl⟩ | ⟨rfl, rfl⟩ | ⟨rfl, rfl⟩
  all_goals
    go_enter Try.func57, Try.ntmps57
    go_wp2_with fail
    refine (rplane_b HO.out.1 _).mono ?_
    rintro e w1 ⟨rfl, b1⟩
    have KB := Lib.hid (blkAt ((Blk.new (w.alloc _) 48 _).keep b1) (g' := w.heap.size + 1) (by simp))
    have B1 := Lib.hid (bthen (balloc (alloc_below _ _) _) b1)
    clear b1
    obtain ⟨d0, d1, d2, d3, d4, d5, _⟩ := blk6 KB.out
    go_wp2_with fail
    refine (rbox_b HO.out.2 _).mono ?_
    rintro e w2 ⟨rfl, b2⟩
    replace B1 := Lib.hid (bthen B1.out b2)
    clear b2 d0 d1 d2 d3 d4 d5
    go_wp2
    exact bodyPost_ret (v := .tuple #[.int .i64 0, .int .i64 0, .int .i64 1]) (by simp [results, Try.results57, go_sem]) rfl ⟨rfl, B1.out⟩

set_option maxHeartbeats 1000000 in
theorem rspan_yes (P B : Nat → Int) (w : World) (h : okPlane P = true) (h' : okBox B = true) :
    Calls Try.prog 57 #[.agg #[.int .i64 (P 0), .int .i64 (P 1), .int .i64 (P 2), .int .i64 (P 3)], .agg #[.int .i64 (B 0), .int .i64 (B 1), .int .i64 (B 2), .int .i64 (B 3), .int .i64 (B 4), .int .i64 (B 5)]] w fun e w' => e = .returned (.tuple #[.int .i64 (enLo P B (P 3)), .int .i64 (enHi P B (P 3)), .int .i64 (enE P B (P 3))]) ∧ Below w.heap.size w w' := by
  have HO := Lib.hid (And.intro h h')
  clear h h'
  go_enter Try.func57, Try.ntmps57
  go_wp2_with fail
  refine (rplane_b HO.out.1 _).mono ?_
  rintro e w1 ⟨rfl, b1⟩
  have KP := Lib.hid (((Blk.new w 40 _).alloc _).keep b1)
  have KB := Lib.hid (blkAt ((Blk.new (w.alloc _) 48 _).keep b1) (g' := w.heap.size + 1) (by simp))
  have B1 := Lib.hid (bthen (balloc (alloc_below _ _) _) b1)
  clear b1
  obtain ⟨d0, d1, d2, d3, d4, d5, _⟩ := blk6 KB.out
  go_wp2_with fail
  refine (rbox_b HO.out.2 _).mono ?_
  rintro e w2 ⟨rfl, b2⟩
  replace KP := Lib.hid (KP.out.keep b2)
  replace KB := Lib.hid (KB.out.keep b2)
  replace B1 := Lib.hid (bthen B1.out b2)
  clear b2 d0 d1 d2 d3 d4 d5
  obtain ⟨d0, d1, d2, d3, d4, d5, _⟩ := blk6 KB.out
  obtain ⟨p0, p1, p2, p3⟩ := blk4 KP.out
  go_wp2_with fail
  refine (rends_any P B (P 3) _).mono ?_
  rintro e w3 ⟨rfl, b3⟩
  replace B1 := Lib.hid (bthen B1.out b3)
  clear b3 d0 d1 d2 d3 d4 d5 p0 p1 p2 p3
  go_wp2
  exact bodyPost_ret (v := .tuple #[.int .i64 (enLo P B (P 3)), .int .i64 (enHi P B (P 3)), .int .i64 (enE P B (P 3))]) (by simp [results, Try.results57, go_sem]) rfl ⟨rfl, B1.out⟩

theorem rspan_any (P B : Nat → Int) (w : World) :
    Calls Try.prog 57 #[.agg #[.int .i64 (P 0), .int .i64 (P 1), .int .i64 (P 2), .int .i64 (P 3)], .agg #[.int .i64 (B 0), .int .i64 (B 1), .int .i64 (B 2), .int .i64 (B 3), .int .i64 (B 4), .int .i64 (B 5)]] w fun e w' => e = .returned (.tuple #[.int .i64 (spnLo P B), .int .i64 (spnHi P B), .int .i64 (spnE P B)]) ∧ Below w.heap.size w w' := by
  unfold spnLo spnHi spnE
  by_cases h3 : spnOk P B = true
  · rw [if_pos h3, if_pos h3, if_pos h3]
    have h4 : okPlane P = true ∧ okBox B = true := by simpa [spnOk] using h3
    exact rspan_yes P B w h4.1 h4.2
  · rw [if_neg h3, if_neg h3, if_neg h3]
    refine rspan_no P B (okPlane P) (okBox B) w rfl rfl ?_
    unfold spnOk at h3
    cases h : okPlane P <;> cases h' : okBox B <;> simp_all

def r3 (x y z : Int) (j : Nat) : Int := [x, y, z].getD j 0
end Go.Proofs.Ytjcibffhlhdjeaa
namespace Go.Proofs.Ytjcibffhlhdjeaa
open Go.ChangeShapes Go.WideShapes Go.ChangeAt Go.RowKit Go.Deep

def zeroB : Nat → Int := fun _ => 0
def BRow (w : World) (a : Option Addr) (len : Nat) (Bs : List (Nat → Int)) : Prop :=
  Bs.length = len ∧ len ≤ 9223372036854775807 ∧ (len = 0 ∨ ∃ b off, a = some ⟨b, off, none⟩ ∧ ∀ i, i < len → ∀ j, j < 6 → w.cell? ⟨b, off + i * 6 + j, none⟩ = some (.int .i64 (Bs.getD i zeroB j)))
theorem brow_keep {w w' : World} {a : Option Addr} {len : Nat} {Bs : List (Nat → Int)} (h : BRow w a len Bs) (hb : Below w.heap.size w w') : BRow w' a len Bs := by
  obtain ⟨h1, h2, h3⟩ := h
  refine ⟨h1, h2, ?_⟩
  rcases h3 with h3 | ⟨b, off, e, hc⟩
  · exact Or.inl h3
  · exact Or.inr ⟨b, off, e, fun i hi j hj => cell_keep (hc i hi j hj) hb⟩
theorem BRow.at_ {w : World} {a : Option Addr} {len k : Nat} {Bs : List (Nat → Int)} (h : BRow w a len Bs) (hk : k < len) :
    ∃ b off B, a = some ⟨b, off, none⟩ ∧ Bs[k]? = some B ∧ w.cell? ⟨b, off + k * 6, none⟩ = some (.int .i64 (B 0)) ∧ w.cell? ⟨b, off + k * 6 + 1, none⟩ = some (.int .i64 (B 1)) ∧ w.cell? ⟨b, off + k * 6 + 2, none⟩ = some (.int .i64 (B 2)) ∧ w.cell? ⟨b, off + k * 6 + 3, none⟩ = some (.int .i64 (B 3)) ∧ w.cell? ⟨b, off + k * 6 + 4, none⟩ = some (.int .i64 (B 4)) ∧ w.cell? ⟨b, off + k * 6 + 5, none⟩ = some (.int .i64 (B 5)) := by
  obtain ⟨h1, h2, h3⟩ := h
  rcases h3 with h3 | ⟨b, off, rfl, hc⟩
  · omega
  · have hk' : k < Bs.length := by omega
    have e : Bs.getD k zeroB = Bs[k] := by simp [List.getD, List.getElem?_eq_getElem hk']
    have c := hc k hk
    rw [e] at c
    exact ⟨b, off, _, rfl, List.getElem?_eq_getElem hk', c 0 (by omega), c 1 (by omega), c 2 (by omega), c 3 (by omega), c 4 (by omega), c 5 (by omega)⟩
def rightBx (Bs : List (Nat → Int)) : Bool := Bs.all okBox
theorem rightBx_bad {Bs : List (Nat → Int)} {k : Nat} {B : Nat → Int} (h : Bs[k]? = some B) (ho : okBox B = false) : rightBx Bs = false := by
  unfold rightBx
  rw [List.all_eq_false]
  exact ⟨B, List.mem_of_getElem? h, by simpa using ho⟩
theorem rightBx_succ {Bs : List (Nat → Int)} {k : Nat} {B : Nat → Int} (h : Bs[k]? = some B) (hr : rightBx (Bs.take k) = true) (ho : okBox B = true) : rightBx (Bs.take (k + 1)) = true := by
  unfold rightBx at hr ⊢
  rw [List.take_add_one, List.all_append, hr, h]
  simpa using ho
end Go.Proofs.Ytjcibffhlhdjeaa
namespace Go.Proofs.Ytjcibffhlhdjeaa
open Go.RowKit

theorem fin {Q : World → Prop} {W : World} (P : World → Prop) (h : P W) (k : ∀ W', P W' → Q W') : Q W := k W h
theorem bdrewn {n : Nat} {w a : World} (h : Below n w a) : Below n w a.drew := ⟨h.os, h.tape, h.output, h.size, h.block⟩

theorem rowIs_at {w : World} {b b' : Nat} {t : TypeId} {n : Nat} {f : Nat → Value} (h : w.rowIs b t n f) (e : b = b') : w.rowIs b' t n f := e ▸ h

def v3 (x y z : Int) (j : Nat) : Int := [x, y, z].getD j 0
theorem boxTo_parts {B : Nat → Int} (h : okBox B = true) : rightV [(B 0, B 1, B 2), (B 3, B 4, B 5)] = true ∧ B 0 ≤ B 3 ∧ B 1 ≤ B 4 ∧ B 2 ≤ B 5 := by
  unfold okBox boxTo boxTo boxTo boxTo at h
  have h4 : ((rightV [(B 0, B 1, B 2), (B 3, B 4, B 5)] = true ∧ B 0 ≤ B (3 + 0)) ∧ B 1 ≤ B (3 + 1)) ∧ B 2 ≤ B (3 + 2) := by simpa using h
  exact ⟨h4.1.1.1, h4.1.1.2, h4.1.2, h4.2⟩
theorem okBox_at {B : Nat → Int} (h : okBox B = true) {k : Nat} (hk : k < 6) : okB (B k) = true := by
  have hr := (boxTo_parts h).1
  rw [rightV2] at hr
  obtain ⟨ha, hb⟩ := ok6_parts hr
  obtain ⟨a0, a1, a2⟩ := ok3_parts ha
  obtain ⟨b0, b1, b2⟩ := ok3_parts hb
  rcases lt6 hk with rfl | rfl | rfl | rfl | rfl | rfl
  · exact a0
  · exact a1
  · exact a2
  · exact b0
  · exact b1
  · exact b2
end Go.Proofs.Ytjcibffhlhdjeaa
