/-
  14 texts in one file, each with its own heading.
-/
import Derived.Test.YtdndafdninnjfaaGreatMFix
import Derived.LoopN
import Derived.Laws.OwnMore
import Derived.Deep.Draws
import Derived.Laws.Rows
import Derived.Deep.RegionHeld3
import Derived.Deep.OwnRows
import Derived.Maps.AppendAt
import Derived.Deep.QuietTactic
import Derived.BigQuiet
import Derived.WalkKit
import Derived.ProofKit
import Derived.OpenShut
import Derived.Deep.Slices
import Derived.Laws.IdiomArrays
/-
  What package vec builds of what a closure answers at each place: build returns what its plain Lean function says, and leaves all memory that was there as it was.
-/
namespace Go.Proofs.YtdndafdninnjfaaGreat
open Go.RowKit

/-- the first error of three -/
def first3 (a b c : Int) : Int := if a = 0 then (if b = 0 then c else b) else a
/-- with an error, zero -/
def gate (e v : Int) : Int := if e = 0 then v else 0

/-- block g holds just the cells cs, of type t, none of them frozen -/
def Blk (w : World) (g : Nat) (t : TypeId) (cs : Array Value) : Prop := w.heap[g]? = some (.cells cs t (0, 0))

/-- a world that has the same in block g keeps it -/
theorem Blk.same {w w' : World} {g : Nat} {t : TypeId} {cs : Array Value} (h : Blk w g t cs) (e : w'.heap[g]? = w.heap[g]?) : Blk w' g t cs := by
  unfold Blk at *
  rw [e, h]
theorem Blk.lt {w : World} {g : Nat} {t : TypeId} {cs : Array Value} (h : Blk w g t cs) : g < w.heap.size := (Array.getElem?_eq_some_iff.1 h).1
theorem Blk.cell {w : World} {g : Nat} {t : TypeId} {cs : Array Value} (h : Blk w g t cs) (i : Nat) : w.cell? ⟨g, i, none⟩ = cs[i]? := by
  unfold Blk at h
  simp [World.cell?, h]
theorem Blk.frozen {w : World} {g : Nat} {t : TypeId} {cs : Array Value} (h : Blk w g t cs) (i : Nat) : w.frozen? ⟨g, i, none⟩ = false := by
  unfold Blk at h
  simp [World.frozen?, h]
/-- the block that was laid last -/
theorem Blk.new (w : World) (t : TypeId) (cs : Array Value) : Blk (w.alloc (.cells cs t)) w.heap.size t cs := heap_alloc_new w (.cells cs t)
theorem Blk.keep {w w' : World} {g : Nat} {t : TypeId} {cs : Array Value} (h : Blk w g t cs) (hb : Below w.heap.size w w') : Blk w' g t cs := h.same (hb.block g h.lt)
theorem Blk.alloc {w : World} {g : Nat} {t : TypeId} {cs : Array Value} (h : Blk w g t cs) (o : Obj) : Blk (w.alloc o) g t cs := h.keep (alloc_below w o)
/-- a store into it, and one elsewhere -/
theorem Blk.set_ {w : World} {g : Nat} {t : TypeId} {cs : Array Value} (h : Blk w g t cs) (i : Nat) (u : Value) : Blk (w.setCell ⟨g, i, none⟩ u) g t (cs.setIfInBounds i u) := by
  unfold Blk at *
  simp [World.setCell, Array.getElem?_modify, h]
theorem Blk.far {w : World} {g : Nat} {t : TypeId} {cs : Array Value} (h : Blk w g t cs) {p : Addr} (hp : g ≠ p.block) (u : Value) : Blk (w.setCell p u) g t cs := by
  refine h.same ?_
  simp [World.setCell, Array.getElem?_modify, Ne.symm hp]
/-- a block of three cells, for the walk -/
theorem blk3 {w : World} {g : Nat} {t : TypeId} {x y z : Value} (h : Blk w g t #[x, y, z]) : w.cell? ⟨g, 0, none⟩ = some x ∧ w.cell? ⟨g, 1, none⟩ = some y ∧ w.cell? ⟨g, 2, none⟩ = some z ∧ w.frozen? ⟨g, 0, none⟩ = false ∧ w.frozen? ⟨g, 1, none⟩ = false ∧ w.frozen? ⟨g, 2, none⟩ = false :=
  ⟨h.cell 0, h.cell 1, h.cell 2, h.frozen 0, h.frozen 1, h.frozen 2⟩

theorem blkAt {w : World} {g g' : Nat} {t : TypeId} {cs : Array Value} (h : Blk w g t cs) (e : g = g') : Blk w g' t cs := e ▸ h

end Go.Proofs.YtdndafdninnjfaaGreat
/-
  Slices of vectors as lists; whether vectors may be, by package vec and by its reference.
-/
namespace Go.Proofs.YtdndafdninnjfaaGreat
open Go.RowKit

abbrev V3 := Int × Int × Int
def ok3 (x y z : Int) : Bool := rightB [x, y, z]
def okV (v : V3) : Bool := ok3 v.1 v.2.1 v.2.2
def rightV (vs : List V3) : Bool := vs.all okV
def zeroV : V3 := (0, 0, 0)

theorem cell_lt {w : World} {x : Addr} {v : Value} (h : w.cell? x = some v) : x.block < w.heap.size := by
  by_cases hb : x.block < w.heap.size
  · exact hb
  · have e : w.heap[x.block]? = none := Array.getElem?_eq_none (by omega)
    simp [World.cell?, e] at h

/-- a cell that was there is there in every later world -/
theorem cell_keep {w w' : World} {x : Addr} {v : Value} (h : w.cell? x = some v) (hb : Below w.heap.size w w') : w'.cell? x = some v := by
  rw [hb.cell (cell_lt h)]; exact h

theorem row_keep {w w' : World} {a : Option Addr} {len : Nat} {zs : List Int} (h : Row w a len zs) (hb : Below w.heap.size w w') : Row w' a len zs := by
  obtain ⟨h1, h2, h3⟩ := h
  refine ⟨h1, h2, ?_⟩
  rcases h3 with h3 | ⟨b, off, e, hc⟩
  · exact Or.inl h3
  · exact Or.inr ⟨b, off, e, fun i hi => cell_keep (hc i hi) hb⟩

/-- a slice of vectors whose elements are 'vs' -/
def VRow (w : World) (a : Option Addr) (len : Nat) (vs : List V3) : Prop :=
  vs.length = len ∧ len ≤ 9223372036854775807 ∧ (len = 0 ∨ ∃ b off, a = some ⟨b, off, none⟩ ∧ ∀ i, i < len →
    w.cell? ⟨b, off + i * 3, none⟩ = some (.int .i64 (vs.getD i zeroV).1) ∧ w.cell? ⟨b, off + i * 3 + 1, none⟩ = some (.int .i64 (vs.getD i zeroV).2.1) ∧ w.cell? ⟨b, off + i * 3 + 2, none⟩ = some (.int .i64 (vs.getD i zeroV).2.2))

theorem VRow.at_ {w : World} {a : Option Addr} {len k : Nat} {vs : List V3} (h : VRow w a len vs) (hk : k < len) :
    ∃ b off x y z, a = some ⟨b, off, none⟩ ∧ vs[k]? = some (x, y, z) ∧ w.cell? ⟨b, off + k * 3, none⟩ = some (.int .i64 x) ∧ w.cell? ⟨b, off + k * 3 + 1, none⟩ = some (.int .i64 y) ∧ w.cell? ⟨b, off + k * 3 + 2, none⟩ = some (.int .i64 z) := by
  obtain ⟨h1, h2, h3⟩ := h
  rcases h3 with h3 | ⟨b, off, rfl, hc⟩
  · omega
  · have hk' : k < vs.length := by omega
    obtain ⟨c0, c1, c2⟩ := hc k hk
    have e : vs.getD k zeroV = vs[k] := by simp [List.getD, List.getElem?_eq_getElem hk']
    rw [e] at c0 c1 c2
    exact ⟨b, off, _, _, _, rfl, List.getElem?_eq_getElem hk', c0, c1, c2⟩

end Go.Proofs.YtdndafdninnjfaaGreat
/-
  What package vec's closures answer at a place.
-/
namespace Go.Proofs.YtdndafdninnjfaaGreat
open Go.RowKit

theorem bdrew {w w1 : World} (h : Below w.drew.heap.size w.drew w1) : Below w.heap.size w w1 := ⟨h.os, h.tape, h.output, h.size, h.block⟩
theorem cell_keepD {w w' : World} {x : Addr} {v : Value} (hb : Below w.drew.heap.size w.drew w') (h : w.cell? x = some v) : w'.cell? x = some v := cell_keep h (bdrew hb)

end Go.Proofs.YtdndafdninnjfaaGreat
/-
  The closures of vec.Sub and vec.Add: what they answer at a place; the numbers that vectors have at a place.
-/
namespace Go.Proofs.YtdndafdninnjfaaGreat
open Go.RowKit

theorem Blk.drew {w : World} {g : Nat} {t : TypeId} {cs : Array Value} (h : Blk w g t cs) : Blk w.drew g t cs := h

theorem World.rowIs.keep {w w' : World} {b : Nat} {t : TypeId} {n : Nat} {f : Nat → Value} (h : w.rowIs b t n f) (hb : Below w.heap.size w w') : w'.rowIs b t n f := h.of_block (hb.block b h.lt)

theorem row_of_is {w : World} {b : Nat} {t : TypeId} {n : Nat} {zs : List Int} (hl : zs.length = n) (hn : n ≤ 9223372036854775807) (h : w.rowIs b t n (fun j => .int .i64 (zs.getD j 0))) : Row w (some ⟨b, 0, none⟩) n zs :=
  ⟨hl, hn, Or.inr ⟨b, 0, rfl, fun i hi => by rw [Nat.zero_add]; exact h.cell hi⟩⟩

end Go.Proofs.YtdndafdninnjfaaGreat
/-
  What package vec's Of, Add, Sub, Scale and Dot answer.
-/
namespace Go.Proofs.YtdndafdninnjfaaGreat
open Go.RowKit

end Go.Proofs.YtdndafdninnjfaaGreat
/-
  What package vec's Sub, Scale and Dot answer.
-/
namespace Go.Proofs.YtdndafdninnjfaaGreat
open Go.RowKit

theorem bset3 {w a : World} {g : Nat} {u0 u1 u2 : Value} (h : Below w.heap.size w a) (hg : w.heap.size ≤ g) : Below w.heap.size w (((a.setCell ⟨g, 0, none⟩ u0).setCell ⟨g, 1, none⟩ u1).setCell ⟨g, 2, none⟩ u2) := ((h.setCell hg _).setCell hg _).setCell hg _

end Go.Proofs.YtdndafdninnjfaaGreat
/-
  What package vec's Least and Greatest answer.
-/
namespace Go.Proofs.YtdndafdninnjfaaGreat
open Go.RowKit

end Go.Proofs.YtdndafdninnjfaaGreat
/-
  The laws' own live question of layer 2 answers true.
-/
namespace Go.Proofs.YtdndafdninnjfaaGreat
open Go.RowKit

def av : List V3 := [(65536, -131072, 196608), (65536, -131072, 196608), (5, 0, 0)]
def al : List V3 := [(65536, -131072, 196608), (131077, -262144, 393216)]
end Go.Proofs.YtdndafdninnjfaaGreat
/-
  What the reference of layer 2 answers: One, Right and Add.
-/
namespace Go.Proofs.YtdndafdninnjfaaGreat
open Go.RowKit

/-! a list of numbers that the call itself appends -/
def Owns (w : World) (base : Nat) (v : Value) (n : Nat) (zs : List Int) : Prop := w.ownsRow base 44 1 v n (zs.map (Value.int .i64))
theorem f_info : (Tryz.prog.info? 44).map (fun i => (i.zero, i.size, i.bytes)) = some (some (.int .i64 0), 1, 8) := by kernel_rfl

theorem Owns.nil (w : World) (base : Nat) : Owns w base (.slice none 0 0) 0 [] := World.ownsRow_nil _ _ _ _
theorem Owns.row {w : World} {base : Nat} {v : Value} {n : Nat} {zs : List Int} (h : Owns w base v n zs) : ∃ a cap, v = .slice a n cap ∧ Row w a n zs := by
  have hl : zs.length = n := by simpa using h.1
  rcases h.2 with ⟨rfl, rfl⟩ | ⟨g, cap, cur, rfl, hb, hh, hnc, hm, hs, ht⟩
  · exact ⟨none, 0, rfl, hl, by omega, Or.inl rfl⟩
  · unfold maxLen at hm
    refine ⟨_, cap, rfl, hl, by omega, Or.inr ⟨g, 0, rfl, fun i hi => ?_⟩⟩
    rw [Nat.zero_add]
    have hi' : i < (zs.map (Value.int .i64)).length := by rw [List.length_map]; omega
    have hc := World.ownsRow.cellAt (j := i) h (by omega)
    rw [hc]
    simp [List.getD, List.getElem?_eq_getElem (show i < zs.length by omega)]

/-- what an append leaves, of what the call has beside -/
theorem grown_below {w0 wr w' : World} {base B : Nat} {v : Value} {n : Nat} {zs : List Int} {o : Obj} (ho : Owns wr base v n zs) (hB : B ≤ base) (hb : Below B w0 wr) (hs : B ≤ wr.heap.size) (hg : (wr.alloc o).grownBy w' v.ownBlock) : Below B w0 w' :=
  (hb.alloc hs o).grown hg (by simp; omega) (fun k hk => by have := World.ownsRow.lt ho k hk; omega)
theorem grown_blk {wr w' : World} {base g : Nat} {v : Value} {n : Nat} {zs : List Int} {o : Obj} (ho : Owns wr base v n zs) (hB : g < base) (hlt : g < wr.heap.size) (hg : (wr.alloc o).grownBy w' v.ownBlock) : w'.heap[g]? = wr.heap[g]? := by
  rw [hg.block g (by simp; omega) (fun e => by have := World.ownsRow.lt ho g e.symm; omega)]
  exact Below.heap_alloc wr o g hlt

/-- the first error of three, place by place -/
theorem first3_at {e : Nat → Int} {k : Nat} (hk : k < 3) (h : ∀ j, j < k → e j = 0) (he : e k ≠ 0) : first3 (e 0) (e 1) (e 2) = e k := by
  unfold first3
  obtain rfl | rfl | rfl : k = 0 ∨ k = 1 ∨ k = 2 := by omega
  · rw [if_neg he]
  · rw [if_pos (h 0 (by omega)), if_neg he]
  · rw [if_pos (h 0 (by omega)), if_pos (h 1 (by omega))]
theorem first3_none {e : Nat → Int} (h : ∀ j, j < 3 → e j = 0) : first3 (e 0) (e 1) (e 2) = 0 := by
  unfold first3
  rw [if_pos (h 0 (by omega)), if_pos (h 1 (by omega)), h 2 (by omega)]

end Go.Proofs.YtdndafdninnjfaaGreat
/-
  What the reference's Add of layer 2 answers.
-/
namespace Go.Proofs.YtdndafdninnjfaaGreat
open Go.RowKit

end Go.Proofs.YtdndafdninnjfaaGreat
/-
  What the reference's Sub, Scale and Dot of layer 2 answer.
-/
namespace Go.Proofs.YtdndafdninnjfaaGreat
open Go.RowKit

theorem Blk.drewN {w : World} {g : Nat} {t : TypeId} {cs : Array Value} (h : Blk w g t cs) (n : Nat) : Blk (w.drewN n) g t cs := h
/-- what was laid so far, place by place -/
def laidTo (f : Nat → Int) (k j : Nat) : Value := if j < k then .int .i64 (f j) else .int .i64 0
theorem laid_step (f : Nat → Int) (k j : Nat) : (if j = k then Value.int .i64 (f k) else laidTo f k j) = laidTo f (k + 1) j := by
  unfold laidTo
  by_cases e : j = k
  · subst e; rw [if_pos rfl, if_pos (by omega)]
  · rw [if_neg e]
    by_cases e2 : j < k
    · rw [if_pos e2, if_pos (by omega)]
    · rw [if_neg e2, if_neg (by omega)]
theorem laid_start (w : World) (t : TypeId) (f : Nat → Int) : (w.alloc (.cells #[.int .i64 0, .int .i64 0, .int .i64 0] t)).rowIs w.heap.size t 3 (laidTo f 0) := by
  refine (World.rowIs_alloc w _ t (laidTo f 0) (fun i hi => ?_))
  obtain rfl | rfl | rfl : i = 0 ∨ i = 1 ∨ i = 2 := by simp at hi; omega
  · rfl
  · rfl
  · rfl
theorem err_step {e : Nat → Int} {k : Nat} (h : ∀ j, j < k → e j = 0) (he : e k = 0) : ∀ j, j < k + 1 → e j = 0 := fun i hi => by
  by_cases c : i = k
  · rw [c]; exact he
  · exact h i (by omega)

end Go.Proofs.YtdndafdninnjfaaGreat
/-
  What the reference's Scale and Dot of layer 2 answer.
-/
namespace Go.Proofs.YtdndafdninnjfaaGreat
open Go.RowKit

theorem own_keep {wr w2 : World} {base : Nat} {v : Value} {n : Nat} {zs : List Int} (h : Owns wr base v n zs) (hb : Below wr.heap.size wr w2) : Owns w2 base v n zs := by
  refine ⟨h.1, ?_⟩
  rcases h.2 with h0 | ⟨g, cap, cur, e, hbs, hh, r⟩
  · exact .inl h0
  · refine .inr ⟨g, cap, cur, e, hbs, ?_, r⟩
    rw [hb.block g (by
      rcases Nat.lt_or_ge g wr.heap.size with hlt | hge
      · exact hlt
      · rw [Array.getElem?_eq_none hge] at hh; cases hh)]
    exact hh

end Go.Proofs.YtdndafdninnjfaaGreat
/-
  What the reference's Edge of layer 2 answers.
-/
namespace Go.Proofs.YtdndafdninnjfaaGreat
open Go.RowKit

end Go.Proofs.YtdndafdninnjfaaGreat
/-
  Arguments that are vectors, opened to their numbers.
-/
namespace Go.Proofs.YtdndafdninnjfaaGreat
open Go.ChangeShapes Go.WideShapes Go.ChangeAt Go.RowKit Go.Deep

section
variable {H : Type} {enc : TypeId × Value → H} {w : World} {base : Nat} {spare : Nat → Bool} {held : Bool}

end
end Go.Proofs.YtdndafdninnjfaaGreat
