/-
  A table as it landed, in memory: the block of the table and its eight columns; steps that change one column.
-/
import Derived.Test.YtpobnmcjmclgbaaTapA
namespace Go.Proofs.Ytpobnmcjmclgbaa
open Go.RowKit

/-- another one at a place -/
def upc {α : Type} (f : Nat → α) (k : Nat) (v : α) (j : Nat) : α := if j = k then v else f j
def tyC (i : Nat) : TypeId := if i = 0 then 30 else if i = 1 then 33 else if i = 3 then 37 else if i = 6 then 4 else 3
def szC (i : Nat) : Nat := if i = 1 then 12 else if i = 3 then 6 else 1
def cId (x : Int × PT) : List Value := [.int .i64 x.1]
def cMat (x : Int × PT) : List Value := [.int .i64 (x.2.2.1 0), .int .i64 (x.2.2.1 1), .int .i64 (x.2.2.1 2), .int .i64 (x.2.2.1 3), .int .i64 (x.2.2.1 4), .int .i64 (x.2.2.1 5), .int .i64 (x.2.2.1 6), .int .i64 (x.2.2.1 7), .int .i64 (x.2.2.1 8), .int .i64 (x.2.2.1 9), .int .i64 (x.2.2.1 10), .int .i64 (x.2.2.1 11)]
def cMesh (x : Int × PT) : List Value := [.int .i64 x.2.2.2.1]
def cBox (x : Int × PT) : List Value := [.int .i64 (x.2.2.2.2.1 0), .int .i64 (x.2.2.2.2.1 1), .int .i64 (x.2.2.2.2.1 2), .int .i64 (x.2.2.2.2.1 3), .int .i64 (x.2.2.2.2.1 4), .int .i64 (x.2.2.2.2.1 5)]
def cPipe (x : Int × PT) : List Value := [.int .i64 x.2.2.2.2.2.1]
def cMtl (x : Int × PT) : List Value := [.int .i64 x.2.2.2.2.2.2.1]
def cClr (x : Int × PT) : List Value := [.bool x.2.2.2.2.2.2.2.1]
def cLay (x : Int × PT) : List Value := [.int .i64 x.2.2.2.2.2.2.2.2]
def colC (i : Nat) : Int × PT → List Value := if i = 0 then cId else if i = 1 then cMat else if i = 2 then cMesh else if i = 3 then cBox else if i = 4 then cPipe else if i = 5 then cMtl else if i = 6 then cClr else cLay
def Col (w : World) (i : Nat) (v : Value) (X : TR) : Prop := ColX w (tyC i) (szC i) (colC i) v X
theorem lt8 {i : Nat} (h : i < 8) : i = 0 ∨ i = 1 ∨ i = 2 ∨ i = 3 ∨ i = 4 ∨ i = 5 ∨ i = 6 ∨ i = 7 := by omega
theorem colC_len {i : Nat} (h : i < 8) (x : Int × PT) : (colC i x).length = szC i := by
  rcases lt8 h with rfl | rfl | rfl | rfl | rfl | rfl | rfl | rfl <;> rfl

/-- the cells of a table -/
def tcells (s : Int) (v : Nat → Value) : Array Value := #[.int .i64 s, v 0, v 1, v 2, v 3, v 4, v 5, v 6, v 7]
theorem tcells_set {s : Int} {v : Nat → Value} {j : Nat} (hj : j < 8) (u : Value) : (tcells s v).setIfInBounds (1 + j) u = tcells s (upc v j u) := by
  rcases lt8 hj with rfl | rfl | rfl | rfl | rfl | rfl | rfl | rfl <;> rfl
theorem tcells_at {s : Int} {v : Nat → Value} {j : Nat} (hj : j < 8) : (tcells s v)[1 + j]? = some (v j) := by
  rcases lt8 hj with rfl | rfl | rfl | rfl | rfl | rfl | rfl | rfl <;> rfl

/-- a table in memory: its columns v hold the rows X -/
structure Tab (w : World) (g : Nat) (s : Int) (v : Nat → Value) (X : Nat → TR) : Prop where
  blk : Blk w g 60 (tcells s v)
  own : ∀ i, i < 8 → Col w i (v i) (X i)
  far : ∀ i, i < 8 → ∀ j, j < 8 → i ≠ j → ∀ b, (v i).ownBlock = some b → (v j).ownBlock ≠ some b
  off : ∀ i, i < 8 → (v i).ownBlock ≠ some g
/-- its memory -/
def foot (g : Nat) (v : Nat → Value) (b : Nat) : Prop := b = g ∨ ∃ i, i < 8 ∧ (v i).ownBlock = some b
theorem Tab.inb {w : World} {g : Nat} {s : Int} {v : Nat → Value} {X : Nat → TR} (h : Tab w g s v X) : ∀ b, foot g v b → b < w.heap.size := by
  rintro b (rfl | ⟨i, hi, hb⟩)
  · exact h.blk.lt
  · exact (World.ownsRow.lt (h.own i hi) b hb).2
theorem Tab.same {w w' : World} {g : Nat} {s : Int} {v : Nat → Value} {X : Nat → TR} (h : Tab w g s v X) (he : ∀ b, foot g v b → w'.heap[b]? = w.heap[b]?) : Tab w' g s v X :=
  ⟨h.blk.same (he g (Or.inl rfl)), fun i hi => (h.own i hi).same (fun b hb => he b (Or.inr ⟨i, hi, hb⟩)), h.far, h.off⟩
theorem Tab.keep {w w' : World} {g : Nat} {s : Int} {v : Nat → Value} {X : Nat → TR} (h : Tab w g s v X) (hb : Below w.heap.size w w') : Tab w' g s v X :=
  h.same (fun b hf => hb.block b (h.inb b hf))
/-- for the walk: a column's cell -/
theorem Tab.cell {w : World} {g : Nat} {s : Int} {v : Nat → Value} {X : Nat → TR} (h : Tab w g s v X) {j : Nat} (hj : j < 8) : w.cell? ⟨g, 1 + j, none⟩ = some (v j) ∧ w.frozen? ⟨g, 1 + j, none⟩ = false := by
  refine ⟨?_, h.blk.frozen _⟩
  rw [h.blk.cell, tcells_at hj]
theorem Tab.set0 {w : World} {g : Nat} {s : Int} {v : Nat → Value} {X : Nat → TR} (h : Tab w g s v X) : w.cell? ⟨g, 0, none⟩ = some (.int .i64 s) := by
  rw [h.blk.cell]; rfl

/-- from world to world: all else stays, and what is new in its memory is new memory -/
structure Step (w w' : World) (g : Nat) (v v' : Nat → Value) : Prop where
  fr : Fr w w' (foot g v)
  new : ∀ b, foot g v' b → foot g v b ∨ w.heap.size ≤ b
theorem Step.refl (w : World) (g : Nat) (v : Nat → Value) : Step w w g v v := ⟨⟨rfl, rfl, rfl, Nat.le_refl _, fun _ _ _ => rfl⟩, fun _ h => Or.inl h⟩
theorem Step.trans {a b d : World} {g : Nat} {u v x : Nat → Value} (h : Step a b g u v) (h' : Step b d g v x) : Step a d g u x := by
  refine ⟨⟨h'.fr.1.trans h.fr.1, h'.fr.2.1.trans h.fr.2.1, h'.fr.2.2.1.trans h.fr.2.2.1, Nat.le_trans h.fr.2.2.2.1 h'.fr.2.2.2.1, fun k hk hn => ?_⟩, fun k hk => ?_⟩
  · refine (h'.fr.2.2.2.2 k (Nat.lt_of_lt_of_le hk h.fr.2.2.2.1) (fun c => ?_)).trans (h.fr.2.2.2.2 k hk hn)
    rcases h.new k c with c' | c'
    · exact hn c'
    · omega
  · rcases h'.new k hk with c | c
    · exact h.new k c
    · exact Or.inr (Nat.le_trans h.fr.2.2.2.1 c)
theorem Step.below {a b : World} {g : Nat} {v : Nat → Value} (hb : Below a.heap.size a b) : Step a b g v v :=
  ⟨⟨hb.os, hb.tape, hb.output, hb.size, fun k hk _ => hb.block k hk⟩, fun _ h => Or.inl h⟩
/-- a column's rows are changed where they lie -/
theorem Tab.put {w w' : World} {g : Nat} {s : Int} {v : Nat → Value} {X : Nat → TR} (h : Tab w g s v X) {j : Nat} (hj : j < 8) (hg : w.grownBy w' (v j).ownBlock) {Y : TR} (hc : Col w' j (v j) Y) : Tab w' g s v (upc X j Y) ∧ Step w w' g v v := by
  refine ⟨⟨h.blk.same (hg.block g h.blk.lt (fun e => h.off j hj e.symm)), fun i hi => ?_, h.far, h.off⟩, ⟨⟨hg.os, hg.tape, hg.output, hg.size, fun k hk hn => hg.block k hk (fun e => hn (Or.inr ⟨j, hj, e.symm⟩))⟩, fun _ h => Or.inl h⟩⟩
  unfold upc
  by_cases e : i = j
  · subst e
    rw [if_pos rfl]
    exact hc
  · rw [if_neg e]
    refine (h.own i hi).kept hg ?_
    cases hv : (v i).ownBlock with
    | none => exact Or.inl rfl
    | some b => exact Or.inr (fun c => h.far i hi j hj e b hv c.symm)
/-- a column is laid anew, and stored -/
theorem Tab.assign {w w' : World} {g : Nat} {s : Int} {v : Nat → Value} {X : Nat → TR} (h : Tab w g s v X) {j : Nat} (hj : j < 8) (hg : w.grownBy w' (v j).ownBlock) {u : Value} {Y : TR} (hc : Col w' j u Y) (hu : ∀ b, u.ownBlock = some b → (v j).ownBlock = some b ∨ w.heap.size ≤ b) :
    Tab (w'.setCell ⟨g, 1 + j, none⟩ u) g s (upc v j u) (upc X j Y) ∧ Step w (w'.setCell ⟨g, 1 + j, none⟩ u) g v (upc v j u) := by
  have hgl := h.blk.lt
  have hk : Blk w' g 60 (tcells s v) := h.blk.same (hg.block g hgl (fun e => h.off j hj e.symm))
  have hoth : ∀ i, i < 8 → i ≠ j → ∀ b, (v i).ownBlock = some b → u.ownBlock ≠ some b := fun i hi e b hv c => by
    rcases hu b c with c' | c'
    · exact h.far i hi j hj e b hv c'
    · have := h.inb b (Or.inr ⟨i, hi, hv⟩); omega
  have hug : u.ownBlock ≠ some g := fun c => by
    rcases hu g c with c' | c'
    · exact h.off j hj c'
    · omega
  have hs : ∀ b, b ≠ g → (w'.setCell ⟨g, 1 + j, none⟩ u).heap[b]? = w'.heap[b]? := fun b hb => by
    simp only [World.setCell, Array.getElem?_modify]
    rw [if_neg (fun e => hb e.symm)]
  refine ⟨⟨?_, fun i hi => ?_, fun i hi i' hi' hne b hv => ?_, fun i hi => ?_⟩, ⟨⟨hg.os, hg.tape, hg.output, by simpa [World.setCell] using hg.size, fun k hkk hn => ?_⟩, fun b hb => ?_⟩⟩
  · rw [← tcells_set hj]; exact hk.set_ _ _
  · unfold upc
    by_cases e : i = j
    · subst e
      rw [if_pos rfl, if_pos rfl]
      exact ColX.same hc (fun b hb => hs b (fun e => hug (e ▸ hb)))
    · rw [if_neg e, if_neg e]
      refine ColX.same ((h.own i hi).kept hg ?_) (fun b hb => hs b (fun e => h.off i hi (e ▸ hb)))
      cases hv : (v i).ownBlock with
      | none => exact Or.inl rfl
      | some b => exact Or.inr (fun c => h.far i hi j hj e b hv c.symm)
  · unfold upc at hv ⊢
    by_cases e : i = j
    · rw [if_pos e] at hv
      by_cases e' : i' = j
      · omega
      · rw [if_neg e']
        exact fun c => hoth i' hi' e' b c hv
    · rw [if_neg e] at hv
      by_cases e' : i' = j
      · rw [if_pos e']
        exact hoth i hi e b hv
      · rw [if_neg e']
        exact h.far i hi i' hi' hne b hv
  · unfold upc
    by_cases e : i = j
    · rw [if_pos e]; exact hug
    · rw [if_neg e]; exact h.off i hi
  · rw [hs k (fun e => hn (Or.inl e))]
    exact hg.block k hkk (fun e => hn (Or.inr ⟨j, hj, e.symm⟩))
  · rcases hb with rfl | ⟨i, hi, hv⟩
    · exact Or.inl (Or.inl rfl)
    · unfold upc at hv
      by_cases e : i = j
      · rw [if_pos e] at hv
        rcases hu b hv with c | c
        · exact Or.inl (Or.inr ⟨j, hj, c⟩)
        · exact Or.inr c
      · rw [if_neg e] at hv
        exact Or.inl (Or.inr ⟨i, hi, hv⟩)
theorem Tab.ext {w : World} {g : Nat} {s : Int} {v : Nat → Value} {X Y : Nat → TR} (h : Tab w g s v X) (e : ∀ i, i < 8 → X i = Y i) : Tab w g s v Y := ⟨h.blk, fun i hi => e i hi ▸ h.own i hi, h.far, h.off⟩

end Go.Proofs.Ytpobnmcjmclgbaa
