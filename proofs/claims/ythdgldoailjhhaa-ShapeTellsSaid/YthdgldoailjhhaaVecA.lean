/-
  What package vec builds of what a closure answers at each place: build returns what its plain Lean function says, and leaves all memory that was there as it was.
-/
import Derived.Test.YthdgldoailjhhaaFixR
import Derived.LoopN
import Derived.Laws.OwnMore
import Derived.Deep.Draws
import Derived.Laws.Rows
namespace Go.Proofs.Ythdgldoailjhhaa
open Go.RowKit

/-- the first error of three -/
def first3 (a b c : Int) : Int := if a = 0 then (if b = 0 then c else b) else a
/-- with an error, zero -/
def gate (e v : Int) : Int := if e = 0 then v else 0

/-- block g holds just the cells cs, of type t, none of them frozen -/
def Blk (w : World) (g : Nat) (t : TypeId) (cs : Array Value) : Prop := w.heap[g]? = some (.cells cs t (0, 0))

/-- a world that has the same in block g keeps it -/
theorem Blk.same {w w' : World} {g : Nat} {t : TypeId} {cs : Array Value} (h : Blk w g t cs) (e : w'.heap[g]? = w.heap[g]?) : Blk w' g t cs := by
  unfold Blk at *
  rw [e, h]
theorem Blk.lt {w : World} {g : Nat} {t : TypeId} {cs : Array Value} (h : Blk w g t cs) : g < w.heap.size := (Array.getElem?_eq_some_iff.1 h).1
theorem Blk.cell {w : World} {g : Nat} {t : TypeId} {cs : Array Value} (h : Blk w g t cs) (i : Nat) : w.cell? ⟨g, i, none⟩ = cs[i]? := by
  unfold Blk at h
  simp [World.cell?, h]
theorem Blk.frozen {w : World} {g : Nat} {t : TypeId} {cs : Array Value} (h : Blk w g t cs) (i : Nat) : w.frozen? ⟨g, i, none⟩ = false := by
  unfold Blk at h
  simp [World.frozen?, h]
/-- the block that was laid last -/
theorem Blk.new (w : World) (t : TypeId) (cs : Array Value) : Blk (w.alloc (.cells cs t)) w.heap.size t cs := heap_alloc_new w (.cells cs t)
theorem Blk.keep {w w' : World} {g : Nat} {t : TypeId} {cs : Array Value} (h : Blk w g t cs) (hb : Below w.heap.size w w') : Blk w' g t cs := h.same (hb.block g h.lt)
theorem Blk.alloc {w : World} {g : Nat} {t : TypeId} {cs : Array Value} (h : Blk w g t cs) (o : Obj) : Blk (w.alloc o) g t cs := h.keep (alloc_below w o)
/-- a store into it, and one elsewhere -/
theorem Blk.set_ {w : World} {g : Nat} {t : TypeId} {cs : Array Value} (h : Blk w g t cs) (i : Nat) (u : Value) : Blk (w.setCell ⟨g, i, none⟩ u) g t (cs.setIfInBounds i u) := by
  unfold Blk at *
  simp [World.setCell, Array.getElem?_modify, h]
theorem Blk.far {w : World} {g : Nat} {t : TypeId} {cs : Array Value} (h : Blk w g t cs) {p : Addr} (hp : g ≠ p.block) (u : Value) : Blk (w.setCell p u) g t cs := by
  refine h.same ?_
  simp [World.setCell, Array.getElem?_modify, Ne.symm hp]
/-- a block of three cells, for the walk -/
theorem blk3 {w : World} {g : Nat} {t : TypeId} {x y z : Value} (h : Blk w g t #[x, y, z]) : w.cell? ⟨g, 0, none⟩ = some x ∧ w.cell? ⟨g, 1, none⟩ = some y ∧ w.cell? ⟨g, 2, none⟩ = some z ∧ w.frozen? ⟨g, 0, none⟩ = false ∧ w.frozen? ⟨g, 1, none⟩ = false ∧ w.frozen? ⟨g, 2, none⟩ = false :=
  ⟨h.cell 0, h.cell 1, h.cell 2, h.frozen 0, h.frozen 1, h.frozen 2⟩

/-- a function with a body of its own, whichever: a call enters it -/
def Enters (F : Nat) : Prop := ∀ args w, (callFunc F args).run Try.prog w = .ok (.enter F args) w
/-- what a closure answers at a place, in every later world -/
def Answers (w : World) (F : Nat) (cap : Array Value) (k : Int) (v e : Int) : Prop :=
  ∀ w', Below w.heap.size w w' → Calls Try.prog F (#[.int .i64 k] ++ cap) w' fun x w'' => x = .returned (.tuple #[.int .i64 v, .int .i64 e]) ∧ Below w'.heap.size w' w''

set_option maxHeartbeats 400000 in
theorem build_e0 (F : Nat) (cap : Array Value) (w : World) (hF : Enters F) (v0 e0 : Int) (h0 : Answers w F cap 0 v0 e0) (he : (e0 != 0) = true) :
    Calls Try.prog 48 #[.func (.func F) #[] cap] w fun e w' => e = .returned (.tuple #[.agg #[.int .i64 0, .int .i64 0, .int .i64 0], .int .i64 e0]) ∧ Below w.heap.size w w' := by
  have H0 := Lib.hid h0
  clear h0
  unfold Enters at hF
  go_enter Try.func48, Try.ntmps48
  go_wp2
  refine wp_loop_rounds 4 ?_
  rw [rounds_succ]
  go_wp2_with fail
  refine (H0.out _ (balloc (alloc_below _ _) _)).mono ?_
  rintro e w1 ⟨rfl, b1⟩
  have k1 := Lib.hid (((Blk.new w 27 _).alloc _).keep b1)
  have B1 := Lib.hid (bthen (balloc (alloc_below _ _) _) b1)
  clear b1
  obtain ⟨c10, c11, c12, f10, f11, f12⟩ := blk3 k1.out
  go_wp2
  exact bodyPost_ret (v := .tuple #[.agg #[.int .i64 0, .int .i64 0, .int .i64 0], .int .i64 e0]) (by simp [results, Try.results48, go_sem, c10, c11, c12]) rfl ⟨rfl, ((B1.out.setCell (by simp) _).setCell (by simp) _).setCell (by simp) _⟩

theorem blkAt {w : World} {g g' : Nat} {t : TypeId} {cs : Array Value} (h : Blk w g t cs) (e : g = g') : Blk w g' t cs := e ▸ h

set_option maxHeartbeats 1000000 in
theorem build_e1 (F : Nat) (cap : Array Value) (w : World) (hF : Enters F) (v0 v1 e1 : Int) (h0 : Answers w F cap 0 v0 0) (h1 : Answers w F cap 1 v1 e1) (he : (e1 != 0) = true) :
    Calls Try.prog 48 #[.func (.func F) #[] cap] w fun e w' => e = .returned (.tuple #[.agg #[.int .i64 0, .int .i64 0, .int .i64 0], .int .i64 e1]) ∧ Below w.heap.size w w' := by
  have H0 := Lib.hid h0
  have H1 := Lib.hid h1
  clear h0 h1
  unfold Enters at hF
  go_enter Try.func48, Try.ntmps48
  go_wp2
  refine wp_loop_rounds 4 ?_
  rw [rounds_succ]
  go_wp2_with fail
  refine (H0.out _ (balloc (alloc_below _ _) _)).mono ?_
  rintro e w1 ⟨rfl, b1⟩
  have k1 := Lib.hid (((Blk.new w 27 _).alloc _).keep b1)
  have l1 := Lib.hid (blkAt ((Blk.new (w.alloc _) 27 _).keep b1) (g' := w.heap.size + 1) (by simp))
  have B1 := Lib.hid (bthen (balloc (alloc_below _ _) _) b1)
  clear b1
  obtain ⟨c10, c11, c12, f10, f11, f12⟩ := blk3 k1.out
  obtain ⟨d10, d11, d12, g10, g11, g12⟩ := blk3 l1.out
  go_wp2
  rw [rounds_succ]
  go_wp2_with fail
  refine (H1.out _ (B1.out.setCell (by simp) _)).mono ?_
  rintro e w2 ⟨rfl, b2⟩
  have k2 := Lib.hid ((k1.out.far (p := ⟨w.heap.size + 1, 0, none⟩) (by simp) _).keep b2)
  have B2 := Lib.hid (bthen (B1.out.setCell (p := ⟨w.heap.size + 1, 0, none⟩) (by simp) _) b2)
  clear b2 c10 c11 c12 f10 f11 f12 d10 d11 d12 g10 g11 g12
  obtain ⟨c10, c11, c12, f10, f11, f12⟩ := blk3 k2.out
  go_wp2
  exact bodyPost_ret (v := .tuple #[.agg #[.int .i64 0, .int .i64 0, .int .i64 0], .int .i64 e1]) (by simp [results, Try.results48, go_sem, c10, c11, c12]) rfl ⟨rfl, ((B2.out.setCell (by simp) _).setCell (by simp) _).setCell (by simp) _⟩

set_option maxHeartbeats 1000000 in
theorem build_e2 (F : Nat) (cap : Array Value) (w : World) (hF : Enters F) (v0 v1 v2 e2 : Int) (h0 : Answers w F cap 0 v0 0) (h1 : Answers w F cap 1 v1 0) (h2 : Answers w F cap 2 v2 e2) (he : (e2 != 0) = true) :
    Calls Try.prog 48 #[.func (.func F) #[] cap] w fun e w' => e = .returned (.tuple #[.agg #[.int .i64 0, .int .i64 0, .int .i64 0], .int .i64 e2]) ∧ Below w.heap.size w w' := by
  have H0 := Lib.hid h0
  have H1 := Lib.hid h1
  have H2 := Lib.hid h2
  clear h0 h1 h2
  unfold Enters at hF
  go_enter Try.func48, Try.ntmps48
  go_wp2
  refine wp_loop_rounds 4 ?_
  rw [rounds_succ]
  go_wp2_with fail
  refine (H0.out _ (balloc (alloc_below _ _) _)).mono ?_
  rintro e w1 ⟨rfl, b1⟩
  have k1 := Lib.hid (((Blk.new w 27 _).alloc _).keep b1)
  have l1 := Lib.hid (blkAt ((Blk.new (w.alloc _) 27 _).keep b1) (g' := w.heap.size + 1) (by simp))
  have B1 := Lib.hid (bthen (balloc (alloc_below _ _) _) b1)
  clear b1
  obtain ⟨d10, d11, d12, g10, g11, g12⟩ := blk3 l1.out
  go_wp2
  rw [rounds_succ]
  go_wp2_with fail
  refine (H1.out _ (B1.out.setCell (by simp) _)).mono ?_
  rintro e w2 ⟨rfl, b2⟩
  have k2 := Lib.hid ((k1.out.far (p := ⟨w.heap.size + 1, 0, none⟩) (by simp) _).keep b2)
  have l2 := Lib.hid ((l1.out.set_ 0 _).keep b2)
  have B2 := Lib.hid (bthen (B1.out.setCell (p := ⟨w.heap.size + 1, 0, none⟩) (by simp) _) b2)
  clear b2 d10 d11 d12 g10 g11 g12
  obtain ⟨d10, d11, d12, g10, g11, g12⟩ := blk3 (x := .int .i64 v0) (y := .int .i64 0) (z := .int .i64 0) l2.out
  go_wp2
  rw [rounds_succ]
  go_wp2_with fail
  refine (H2.out _ (B2.out.setCell (by simp) _)).mono ?_
  rintro e w3 ⟨rfl, b3⟩
  have k3 := Lib.hid ((k2.out.far (p := ⟨w.heap.size + 1, 1, none⟩) (by simp) _).keep b3)
  have B3 := Lib.hid (bthen (B2.out.setCell (p := ⟨w.heap.size + 1, 1, none⟩) (by simp) _) b3)
  clear b3 d10 d11 d12 g10 g11 g12
  obtain ⟨c10, c11, c12, f10, f11, f12⟩ := blk3 k3.out
  go_wp2
  exact bodyPost_ret (v := .tuple #[.agg #[.int .i64 0, .int .i64 0, .int .i64 0], .int .i64 e2]) (by simp [results, Try.results48, go_sem, c10, c11, c12]) rfl ⟨rfl, ((B3.out.setCell (by simp) _).setCell (by simp) _).setCell (by simp) _⟩

set_option maxHeartbeats 1000000 in
theorem build_ok (F : Nat) (cap : Array Value) (w : World) (hF : Enters F) (v0 v1 v2 : Int) (h0 : Answers w F cap 0 v0 0) (h1 : Answers w F cap 1 v1 0) (h2 : Answers w F cap 2 v2 0) :
    Calls Try.prog 48 #[.func (.func F) #[] cap] w fun e w' => e = .returned (.tuple #[.agg #[.int .i64 v0, .int .i64 v1, .int .i64 v2], .int .i64 0]) ∧ Below w.heap.size w w' := by
  have H0 := Lib.hid h0
  have H1 := Lib.hid h1
  have H2 := Lib.hid h2
  clear h0 h1 h2
  unfold Enters at hF
  go_enter Try.func48, Try.ntmps48
  go_wp2
  refine wp_loop_rounds 4 ?_
  rw [rounds_succ]
  go_wp2_with fail
  refine (H0.out _ (balloc (alloc_below _ _) _)).mono ?_
  rintro e w1 ⟨rfl, b1⟩
  have k1 := Lib.hid (((Blk.new w 27 _).alloc _).keep b1)
  have l1 := Lib.hid (blkAt ((Blk.new (w.alloc _) 27 _).keep b1) (g' := w.heap.size + 1) (by simp))
  have B1 := Lib.hid (bthen (balloc (alloc_below _ _) _) b1)
  clear b1
  obtain ⟨d10, d11, d12, g10, g11, g12⟩ := blk3 l1.out
  go_wp2
  rw [rounds_succ]
  go_wp2_with fail
  refine (H1.out _ (B1.out.setCell (by simp) _)).mono ?_
  rintro e w2 ⟨rfl, b2⟩
  have k2 := Lib.hid ((k1.out.far (p := ⟨w.heap.size + 1, 0, none⟩) (by simp) _).keep b2)
  have l2 := Lib.hid ((l1.out.set_ 0 _).keep b2)
  have B2 := Lib.hid (bthen (B1.out.setCell (p := ⟨w.heap.size + 1, 0, none⟩) (by simp) _) b2)
  clear b2 d10 d11 d12 g10 g11 g12
  obtain ⟨d10, d11, d12, g10, g11, g12⟩ := blk3 (x := .int .i64 v0) (y := .int .i64 0) (z := .int .i64 0) l2.out
  go_wp2
  rw [rounds_succ]
  go_wp2_with fail
  refine (H2.out _ (B2.out.setCell (by simp) _)).mono ?_
  rintro e w3 ⟨rfl, b3⟩
  have k3 := Lib.hid ((k2.out.far (p := ⟨w.heap.size + 1, 1, none⟩) (by simp) _).keep b3)
  have l3 := Lib.hid ((l2.out.set_ 1 _).keep b3)
  have B3 := Lib.hid (bthen (B2.out.setCell (p := ⟨w.heap.size + 1, 1, none⟩) (by simp) _) b3)
  clear b3 d10 d11 d12 g10 g11 g12
  obtain ⟨c10, c11, c12, f10, f11, f12⟩ := blk3 k3.out
  obtain ⟨d10, d11, d12, g10, g11, g12⟩ := blk3 (x := .int .i64 v0) (y := .int .i64 v1) (z := .int .i64 0) l3.out
  go_wp2
  rw [rounds_succ]
  go_wp2
  exact bodyPost_ret (v := .tuple #[.agg #[.int .i64 v0, .int .i64 v1, .int .i64 v2], .int .i64 0]) (by simp [results, Try.results48, go_sem, c10, c11, c12]) rfl ⟨rfl, (((B3.out.setCell (by simp) _).setCell (by simp) _).setCell (by simp) _).setCell (by simp) _⟩

theorem build_any (F : Nat) (cap : Array Value) (w : World) (hF : Enters F) (v0 v1 v2 e0 e1 e2 : Int) (h0 : Answers w F cap 0 v0 e0) (h1 : Answers w F cap 1 v1 e1) (h2 : Answers w F cap 2 v2 e2) :
    Calls Try.prog 48 #[.func (.func F) #[] cap] w fun e w' => e = .returned (.tuple #[.agg #[.int .i64 (gate (first3 e0 e1 e2) v0), .int .i64 (gate (first3 e0 e1 e2) v1), .int .i64 (gate (first3 e0 e1 e2) v2)], .int .i64 (first3 e0 e1 e2)]) ∧ Below w.heap.size w w' := by
  unfold gate first3
  by_cases he0 : e0 = 0
  · subst he0
    by_cases he1 : e1 = 0
    · subst he1
      by_cases he2 : e2 = 0
      · subst he2
        simpa using build_ok F cap w hF v0 v1 v2 h0 h1 h2
      · simpa [he2] using build_e2 F cap w hF v0 v1 v2 e2 h0 h1 h2 (by simpa using he2)
    · simpa [he1] using build_e1 F cap w hF v0 v1 e1 h0 h1 (by simpa using he1)
  · simpa [he0] using build_e0 F cap w hF v0 e0 h0 (by simpa using he0)

end Go.Proofs.Ythdgldoailjhhaa
