/-
  5 texts in one file, each with its own heading.
-/
import Derived.Test.YthhfcedhbfandaaGreatMS08
import Derived.Test.YthhfcedhbfandaaGreatMS07
/-
  The live question of the law of layer 8, for any package that answers as the bundle says.
-/
namespace Go.Proofs.YthhfcedhbfandaaGreat
open Go.RowKit

def PXs (X : List Value) : Prop := X.length = 24 ∧ (Tryz.prog.info? 52).map (·.size) = some X.length ∧ (Tryz.prog.info? 52).map (·.size) = some X.toArray.size ∧ X.toArray.all (·.oneCell') = true
section
variable {SB : World → Nat → (Nat → Prop) → St → Prop}
end
def poolX (E : Nat → Value) (R : Int) (G : Nat → Int) (L : Nat → Bool) (j : Nat) : Value := if j < 513 then poolF R G L j else E j
section
variable {w : World} {g : Nat} {t : TypeId} {N : Nat} {E : Nat → Value} {R : Int} {G : Nat → Int} {L : Nat → Bool} {k : Nat}
end

def upc {α : Type} (f : Nat → α) (k : Nat) (v : α) (j : Nat) : α := if j = k then v else f j
def tyC (i : Nat) : TypeId := if i = 0 then 81 else if i = 1 then 46 else if i = 3 then 50 else if i = 6 then 4 else 3
def szC (i : Nat) : Nat := if i = 1 then 12 else if i = 3 then 6 else 1
def cId (x : Int × PT) : List Value := [.int .i64 x.1]
def cMat (x : Int × PT) : List Value := [.int .i64 (x.2.2.1 0), .int .i64 (x.2.2.1 1), .int .i64 (x.2.2.1 2), .int .i64 (x.2.2.1 3), .int .i64 (x.2.2.1 4), .int .i64 (x.2.2.1 5), .int .i64 (x.2.2.1 6), .int .i64 (x.2.2.1 7), .int .i64 (x.2.2.1 8), .int .i64 (x.2.2.1 9), .int .i64 (x.2.2.1 10), .int .i64 (x.2.2.1 11)]
def cMesh (x : Int × PT) : List Value := [.int .i64 x.2.2.2.1]
def cBox (x : Int × PT) : List Value := [.int .i64 (x.2.2.2.2.1 0), .int .i64 (x.2.2.2.2.1 1), .int .i64 (x.2.2.2.2.1 2), .int .i64 (x.2.2.2.2.1 3), .int .i64 (x.2.2.2.2.1 4), .int .i64 (x.2.2.2.2.1 5)]
def cPipe (x : Int × PT) : List Value := [.int .i64 x.2.2.2.2.2.1]
def cMtl (x : Int × PT) : List Value := [.int .i64 x.2.2.2.2.2.2.1]
def cClr (x : Int × PT) : List Value := [.bool x.2.2.2.2.2.2.2.1]
def cLay (x : Int × PT) : List Value := [.int .i64 x.2.2.2.2.2.2.2.2]
def colC (i : Nat) : Int × PT → List Value := if i = 0 then cId else if i = 1 then cMat else if i = 2 then cMesh else if i = 3 then cBox else if i = 4 then cPipe else if i = 5 then cMtl else if i = 6 then cClr else cLay
def Col (w : World) (i : Nat) (v : Value) (X : TR) : Prop := ColX w (tyC i) (szC i) (colC i) v X
theorem lt8 {i : Nat} (h : i < 8) : i = 0 ∨ i = 1 ∨ i = 2 ∨ i = 3 ∨ i = 4 ∨ i = 5 ∨ i = 6 ∨ i = 7 := by omega
def tcells (s : Int) (v : Nat → Value) : Array Value := #[.int .i64 s, v 0, v 1, v 2, v 3, v 4, v 5, v 6, v 7]
theorem tcells_set {s : Int} {v : Nat → Value} {j : Nat} (hj : j < 8) (u : Value) : (tcells s v).setIfInBounds (1 + j) u = tcells s (upc v j u) := by
  rcases lt8 hj with rfl | rfl | rfl | rfl | rfl | rfl | rfl | rfl <;> rfl
theorem tcells_at {s : Int} {v : Nat → Value} {j : Nat} (hj : j < 8) : (tcells s v)[1 + j]? = some (v j) := by
  rcases lt8 hj with rfl | rfl | rfl | rfl | rfl | rfl | rfl | rfl <;> rfl

structure Tab (w : World) (g : Nat) (s : Int) (v : Nat → Value) (X : Nat → TR) : Prop where
  blk : Blk w g 332 (tcells s v)
  own : ∀ i, i < 8 → Col w i (v i) (X i)
  far : ∀ i, i < 8 → ∀ j, j < 8 → i ≠ j → ∀ b, (v i).ownBlock = some b → (v j).ownBlock ≠ some b
  off : ∀ i, i < 8 → (v i).ownBlock ≠ some g
def foot (g : Nat) (v : Nat → Value) (b : Nat) : Prop := b = g ∨ ∃ i, i < 8 ∧ (v i).ownBlock = some b
theorem Tab.inb {w : World} {g : Nat} {s : Int} {v : Nat → Value} {X : Nat → TR} (h : Tab w g s v X) : ∀ b, foot g v b → b < w.heap.size := by
  rintro b (rfl | ⟨i, hi, hb⟩)
  · exact h.blk.lt
  · exact (World.ownsRow.lt (h.own i hi) b hb).2
theorem Tab.same {w w' : World} {g : Nat} {s : Int} {v : Nat → Value} {X : Nat → TR} (h : Tab w g s v X) (he : ∀ b, foot g v b → w'.heap[b]? = w.heap[b]?) : Tab w' g s v X :=
  ⟨h.blk.same (he g (Or.inl rfl)), fun i hi => (h.own i hi).same (fun b hb => he b (Or.inr ⟨i, hi, hb⟩)), h.far, h.off⟩
theorem Tab.keep {w w' : World} {g : Nat} {s : Int} {v : Nat → Value} {X : Nat → TR} (h : Tab w g s v X) (hb : Below w.heap.size w w') : Tab w' g s v X :=
  h.same (fun b hf => hb.block b (h.inb b hf))
theorem Tab.cell {w : World} {g : Nat} {s : Int} {v : Nat → Value} {X : Nat → TR} (h : Tab w g s v X) {j : Nat} (hj : j < 8) : w.cell? ⟨g, 1 + j, none⟩ = some (v j) ∧ w.frozen? ⟨g, 1 + j, none⟩ = false := by
  refine ⟨?_, h.blk.frozen _⟩
  rw [h.blk.cell, tcells_at hj]
theorem Tab.set0 {w : World} {g : Nat} {s : Int} {v : Nat → Value} {X : Nat → TR} (h : Tab w g s v X) : w.cell? ⟨g, 0, none⟩ = some (.int .i64 s) := by
  rw [h.blk.cell]; rfl

structure Step (w w' : World) (g : Nat) (v v' : Nat → Value) : Prop where
  fr : Fr w w' (foot g v)
  new : ∀ b, foot g v' b → foot g v b ∨ w.heap.size ≤ b
theorem Step.refl (w : World) (g : Nat) (v : Nat → Value) : Step w w g v v := ⟨⟨rfl, rfl, rfl, Nat.le_refl _, fun _ _ _ => rfl⟩, fun _ h => Or.inl h⟩
theorem Step.trans {a b d : World} {g : Nat} {u v x : Nat → Value} (h : Step a b g u v) (h' : Step b d g v x) : Step a d g u x := by
  refine ⟨⟨h'.fr.1.trans h.fr.1, h'.fr.2.1.trans h.fr.2.1, h'.fr.2.2.1.trans h.fr.2.2.1, Nat.le_trans h.fr.2.2.2.1 h'.fr.2.2.2.1, fun k hk hn => ?_⟩, fun k hk => ?_⟩
  · refine (h'.fr.2.2.2.2 k (Nat.lt_of_lt_of_le hk h.fr.2.2.2.1) (fun c => ?_)).trans (h.fr.2.2.2.2 k hk hn)
    rcases h.new k c with c' | c'
    · exact hn c'
    · omega
  · rcases h'.new k hk with c | c
    · exact h.new k c
    · exact Or.inr (Nat.le_trans h.fr.2.2.2.1 c)
theorem Step.below {a b : World} {g : Nat} {v : Nat → Value} (hb : Below a.heap.size a b) : Step a b g v v :=
  ⟨⟨hb.os, hb.tape, hb.output, hb.size, fun k hk _ => hb.block k hk⟩, fun _ h => Or.inl h⟩
theorem Tab.put {w w' : World} {g : Nat} {s : Int} {v : Nat → Value} {X : Nat → TR} (h : Tab w g s v X) {j : Nat} (hj : j < 8) (hg : w.grownBy w' (v j).ownBlock) {Y : TR} (hc : Col w' j (v j) Y) : Tab w' g s v (upc X j Y) ∧ Step w w' g v v := by
  refine ⟨⟨h.blk.same (hg.block g h.blk.lt (fun e => h.off j hj e.symm)), fun i hi => ?_, h.far, h.off⟩, ⟨⟨hg.os, hg.tape, hg.output, hg.size, fun k hk hn => hg.block k hk (fun e => hn (Or.inr ⟨j, hj, e.symm⟩))⟩, fun _ h => Or.inl h⟩⟩
  unfold upc
  by_cases e : i = j
  · subst e
    rw [if_pos rfl]
    exact hc
  · rw [if_neg e]
    refine (h.own i hi).kept hg ?_
    cases hv : (v i).ownBlock with
    | none => exact Or.inl rfl
    | some b => exact Or.inr (fun c => h.far i hi j hj e b hv c.symm)
theorem Tab.assign {w w' : World} {g : Nat} {s : Int} {v : Nat → Value} {X : Nat → TR} (h : Tab w g s v X) {j : Nat} (hj : j < 8) (hg : w.grownBy w' (v j).ownBlock) {u : Value} {Y : TR} (hc : Col w' j u Y) (hu : ∀ b, u.ownBlock = some b → (v j).ownBlock = some b ∨ w.heap.size ≤ b) :
    Tab (w'.setCell ⟨g, 1 + j, none⟩ u) g s (upc v j u) (upc X j Y) ∧ Step w (w'.setCell ⟨g, 1 + j, none⟩ u) g v (upc v j u) := by
  have hgl := h.blk.lt
  have hk : Blk w' g 332 (tcells s v) := h.blk.same (hg.block g hgl (fun e => h.off j hj e.symm))
  have hoth : ∀ i, i < 8 → i ≠ j → ∀ b, (v i).ownBlock = some b → u.ownBlock ≠ some b := fun i hi e b hv c => by
    rcases hu b c with c' | c'
    · exact h.far i hi j hj e b hv c'
    · have := h.inb b (Or.inr ⟨i, hi, hv⟩); omega
  have hug : u.ownBlock ≠ some g := fun c => by
    rcases hu g c with c' | c'
    · exact h.off j hj c'
    · omega
  have hs : ∀ b, b ≠ g → (w'.setCell ⟨g, 1 + j, none⟩ u).heap[b]? = w'.heap[b]? := fun b hb => by
    simp only [World.setCell, Array.getElem?_modify]
    rw [if_neg (fun e => hb e.symm)]
  refine ⟨⟨?_, fun i hi => ?_, fun i hi i' hi' hne b hv => ?_, fun i hi => ?_⟩, ⟨⟨hg.os, hg.tape, hg.output, by simpa [World.setCell] using hg.size, fun k hkk hn => ?_⟩, fun b hb => ?_⟩⟩
  · rw [← tcells_set hj]; exact hk.set_ _ _
  · unfold upc
    by_cases e : i = j
    · subst e
      rw [if_pos rfl, if_pos rfl]
      exact ColX.same hc (fun b hb => hs b (fun e => hug (e ▸ hb)))
    · rw [if_neg e, if_neg e]
      refine ColX.same ((h.own i hi).kept hg ?_) (fun b hb => hs b (fun e => h.off i hi (e ▸ hb)))
      cases hv : (v i).ownBlock with
      | none => exact Or.inl rfl
      | some b => exact Or.inr (fun c => h.far i hi j hj e b hv c.symm)
  · unfold upc at hv ⊢
    by_cases e : i = j
    · rw [if_pos e] at hv
      by_cases e' : i' = j
      · omega
      · rw [if_neg e']
        exact fun c => hoth i' hi' e' b c hv
    · rw [if_neg e] at hv
      by_cases e' : i' = j
      · rw [if_pos e']
        exact hoth i hi e b hv
      · rw [if_neg e']
        exact h.far i hi i' hi' hne b hv
  · unfold upc
    by_cases e : i = j
    · rw [if_pos e]; exact hug
    · rw [if_neg e]; exact h.off i hi
  · rw [hs k (fun e => hn (Or.inl e))]
    exact hg.block k hkk (fun e => hn (Or.inr ⟨j, hj, e.symm⟩))
  · rcases hb with rfl | ⟨i, hi, hv⟩
    · exact Or.inl (Or.inl rfl)
    · unfold upc at hv
      by_cases e : i = j
      · rw [if_pos e] at hv
        rcases hu b hv with c | c
        · exact Or.inl (Or.inr ⟨j, hj, c⟩)
        · exact Or.inr c
      · rw [if_neg e] at hv
        exact Or.inl (Or.inr ⟨i, hi, hv⟩)
theorem Tab.ext {w : World} {g : Nat} {s : Int} {v : Nat → Value} {X Y : Nat → TR} (h : Tab w g s v X) (e : ∀ i, i < 8 → X i = Y i) : Tab w g s v Y := ⟨h.blk, fun i hi => e i hi ▸ h.own i hi, h.far, h.off⟩

def cutL (X : TR) (i : Nat) : TR := if i < X.length then (X.set i (X.getD (X.length - 1) d0)).take (X.length - 1) else X
theorem getD_at {X : TR} {i : Nat} (h : i < X.length) : X[i]? = some (X.getD i d0) := by simp [List.getD, List.getElem?_eq_getElem h]
theorem getD_no {X : TR} {i : Nat} (h : ¬ i < X.length) : X.getD i d0 = d0 := by simp [List.getD, List.getElem?_eq_none (Nat.le_of_not_lt h)]
theorem blk_over {w : World} {g : Nat} {t : TypeId} {Z Y : List Value} (h : Blk w g t Z.toArray) (e : Y.length = Z.length) : Blk (w.setCells g 0 Y) g t Y.toArray := by
  have := blk_setCells Y (o := 0) h (by omega)
  rwa [splice_all e] at this
theorem sets1 (w : World) (g i : Nat) (u : Value) : w.setCells g (i * 1) [u] = w.setCell ⟨g, i, none⟩ u := by rw [Nat.mul_one]; rfl
theorem range1 {w : World} {g i : Nat} {u : Value} (h : w.rangeAt g (i * 1) [u]) : w.cell? ⟨g, i, none⟩ = some u := by
  have := h 0 u rfl
  rwa [Nat.mul_one, Nat.add_zero] at this
theorem there1 {w : World} {g i : Nat} (h : w.there g (i * 1) 1) : w.frozen? ⟨g, i, none⟩ = false := by
  have := (h 0 (by omega)).2
  rwa [Nat.mul_one, Nat.add_zero] at this

set_option maxHeartbeats 1000000 in
set_option maxRecDepth 100000 in
theorem at_int (f : Int × PT → Int) (v : Value) (X : TR) (row : Nat) (w : World) (h : ColX w 3 1 (fun x => [.int .i64 (f x)]) v X) (hX : X.length ≤ 1000) (hz : f d0 = 0) :
    Calls Tryz.prog 310 #[v, .int .i64 row] w fun e w' => e = .returned (.int .i64 (f (X.getD row d0))) ∧ w = w' := by
  have hc : ∀ x, ((fun x => [.int .i64 (f x)]) x : List Value).length = 1 := fun _ => rfl
  obtain ⟨n, hn⟩ : ∃ n, n = X.length := ⟨_, rfl⟩
  by_cases hlt : row < X.length
  · obtain ⟨g, cap, cur, rfl, _, hcap, hmax, _, _⟩ := h.open_ (by omega)
    have c0 := range1 (h.range hc (getD_at hlt))
    have f0 := there1 (h.there hlt)
    have hg := World.block_lt_of_cell? w _ c0
    have r0 : (0 : Int) ≤ (row : Int) := by omega
    have HX := Lib.hid h
    rw [← hn] at hlt hX hcap ⊢
    have r1 : (row : Int) < (n : Int) := by omega
    obtain ⟨y, hy⟩ : ∃ y, y = f (X.getD row d0) := ⟨_, rfl⟩
    rw [← hy] at c0 ⊢
    clear h hc hn hy hz
    go_enter Tryz.func310, Tryz.ntmps310
    go_wp2
    go_ret
    exact ⟨rfl, rfl⟩
  · obtain ⟨a, cap, rfl, hcap, hmax⟩ := h.form
    rw [getD_no hlt, hz]
    rw [← hn] at hlt hX hcap ⊢
    have r1 : ¬ (row : Int) < (n : Int) := by omega
    clear h hc hn hz
    go_enter Tryz.func310, Tryz.ntmps310
    go_wp2
    go_ret
    exact ⟨rfl, rfl⟩
set_option maxHeartbeats 1000000 in
set_option maxRecDepth 100000 in
theorem put_int (f : Int × PT → Int) (v : Value) (X : TR) (row : Nat) (w : World) (h : ColX w 3 1 (fun x => [.int .i64 (f x)]) v X) (hX : X.length ≤ 1000) (y : Int × PT) :
    Calls Tryz.prog 318 #[v, .int .i64 row, .int .i64 (f y)] w fun e w' => e = .returned (.tuple #[]) ∧ ColX w' 3 1 (fun x => [.int .i64 (f x)]) v (X.set row y) ∧ w.grownBy w' v.ownBlock := by
  have hc : ∀ x, ((fun x => [.int .i64 (f x)]) x : List Value).length = 1 := fun _ => rfl
  obtain ⟨n, hn⟩ : ∃ n, n = X.length := ⟨_, rfl⟩
  by_cases hlt : row < X.length
  · obtain ⟨g, cap, cur, rfl, _, hcap, hmax, _, _⟩ := h.open_ (by omega)
    have c0 := range1 (h.range hc (getD_at hlt))
    have f0 := there1 (h.there hlt)
    have hg := World.block_lt_of_cell? w _ c0
    have r0 : (0 : Int) ≤ (row : Int) := by omega
    have HS := Lib.hid (h.set_ hc hlt y)
    rw [sets1] at HS
    rw [← hn] at hlt hX hcap HS ⊢
    have r1 : (row : Int) < (n : Int) := by omega
    obtain ⟨u, hu⟩ : ∃ u, u = f (X.getD row d0) := ⟨_, rfl⟩
    rw [← hu] at c0
    obtain ⟨q, hq⟩ : ∃ q, q = f y := ⟨_, rfl⟩
    have HG := Lib.hid (grown_sets [.int .i64 (f y)] w g (row * 1))
    rw [sets1] at HG
    rw [← hq] at HG ⊢
    simp only [← hq] at HS
    clear h hc hn hu hq
    go_enter Tryz.func318, Tryz.ntmps318
    go_wp2
    go_end0
    exact ⟨rfl, HS.out, HG.out⟩
  · obtain ⟨a, cap, rfl, hcap, hmax⟩ := h.form
    have HX := Lib.hid h
    rw [List.set_eq_of_length_le (Nat.le_of_not_lt hlt)]
    rw [← hn] at hlt hX hcap HX ⊢
    have r1 : ¬ (row : Int) < (n : Int) := by omega
    obtain ⟨q, hq⟩ : ∃ q, q = f y := ⟨_, rfl⟩
    rw [← hq]
    clear h hc hn hq
    go_enter Tryz.func318, Tryz.ntmps318
    go_wp2
    go_end0
    exact ⟨rfl, HX.out, ⟨rfl, rfl, rfl, Nat.le_refl _, fun _ _ _ => rfl⟩⟩
set_option maxHeartbeats 1000000 in
set_option maxRecDepth 100000 in
theorem cut_int (f : Int × PT → Int) (v : Value) (X : TR) (row : Nat) (w : World) (h : ColX w 3 1 (fun x => [.int .i64 (f x)]) v X) (hX : X.length ≤ 1000) :
    Calls Tryz.prog 283 #[v, .int .i64 row] w fun e w' => ∃ u, e = .returned u ∧ ColX w' 3 1 (fun x => [.int .i64 (f x)]) u (cutL X row) ∧ w.grownBy w' v.ownBlock ∧ u.ownBlock = v.ownBlock := by
  have hc : ∀ x, ((fun x => [.int .i64 (f x)]) x : List Value).length = 1 := fun _ => rfl
  obtain ⟨n, hn⟩ : ∃ n, n = X.length := ⟨_, rfl⟩
  by_cases hlt : row < X.length
  · obtain ⟨g, cap, cur, rfl, _, hcap, hmax, _, _⟩ := h.open_ (by omega)
    obtain ⟨m, rfl⟩ : ∃ m, n = m + 1 := ⟨n - 1, by omega⟩
    have c0 := range1 (h.range hc (getD_at hlt))
    have c1 := range1 (h.range hc (getD_at (i := m) (by omega)))
    have f0 := there1 (h.there hlt)
    have hg := World.block_lt_of_cell? w _ c0
    have r0 : (0 : Int) ≤ (row : Int) := by omega
    obtain ⟨zr, hzr⟩ : ∃ zr, zr = X.getD m d0 := ⟨_, rfl⟩
    have HS := h.set_ hc hlt zr
    rw [sets1] at HS
    replace HS := Lib.hid (HS.take_ hc (m := m) (by rw [List.length_set]; omega) (by rw [List.length_set]; omega))
    have eL : cutL X row = (X.set row zr).take m := by rw [hzr]; unfold cutL; rw [if_pos hlt, ← hn]; rfl
    rw [eL]
    rw [← hn] at hlt hX hcap ⊢
    have r1 : (row : Int) < ((m + 1 : Nat) : Int) := by omega
    have HG := Lib.hid (grown_sets [.int .i64 (f zr)] w g (row * 1))
    rw [sets1] at HG
    obtain ⟨y, hy⟩ : ∃ y, y = f (X.getD row d0) := ⟨_, rfl⟩
    rw [← hy] at c0
    rw [← hzr] at c1
    obtain ⟨z, hz⟩ : ∃ z, z = f zr := ⟨_, rfl⟩
    rw [← hz] at c1 HG
    simp only [← hz] at HS
    unfold maxLen at hmax
    clear h hc hn hy eL hz hzr
    go_enter Tryz.func283, Tryz.ntmps283
    go_wp2
    go_ret
    exact ⟨_, rfl, HS.out, HG.out, rfl⟩
  · obtain ⟨a, cap, rfl, hcap, hmax⟩ := h.form
    have HX := Lib.hid h
    have eL : cutL X row = X := by unfold cutL; rw [if_neg hlt]
    rw [eL]
    rw [← hn] at hlt hX hcap HX ⊢
    have r1 : ¬ (row : Int) < (n : Int) := by omega
    clear h hc hn eL
    go_enter Tryz.func283, Tryz.ntmps283
    go_wp2
    go_ret
    exact ⟨_, rfl, HX.out, ⟨rfl, rfl, rfl, Nat.le_refl _, fun _ _ _ => rfl⟩, rfl⟩

set_option maxHeartbeats 1000000 in
set_option maxRecDepth 100000 in
theorem at_bool (f : Int × PT → Bool) (v : Value) (X : TR) (row : Nat) (w : World) (h : ColX w 4 1 (fun x => [.bool (f x)]) v X) (hX : X.length ≤ 1000) (hz : f d0 = false) :
    Calls Tryz.prog 312 #[v, .int .i64 row] w fun e w' => e = .returned (.bool (f (X.getD row d0))) ∧ w = w' := by
  have hc : ∀ x, ((fun x => [.bool (f x)]) x : List Value).length = 1 := fun _ => rfl
  obtain ⟨n, hn⟩ : ∃ n, n = X.length := ⟨_, rfl⟩
  by_cases hlt : row < X.length
  · obtain ⟨g, cap, cur, rfl, _, hcap, hmax, _, _⟩ := h.open_ (by omega)
    have c0 := range1 (h.range hc (getD_at hlt))
    have f0 := there1 (h.there hlt)
    have hg := World.block_lt_of_cell? w _ c0
    have r0 : (0 : Int) ≤ (row : Int) := by omega
    have HX := Lib.hid h
    rw [← hn] at hlt hX hcap ⊢
    have r1 : (row : Int) < (n : Int) := by omega
    obtain ⟨y, hy⟩ : ∃ y, y = f (X.getD row d0) := ⟨_, rfl⟩
    rw [← hy] at c0 ⊢
    clear h hc hn hy hz
    go_enter Tryz.func312, Tryz.ntmps312
    go_wp2
    go_ret
    exact ⟨rfl, rfl⟩
  · obtain ⟨a, cap, rfl, hcap, hmax⟩ := h.form
    rw [getD_no hlt, hz]
    rw [← hn] at hlt hX hcap ⊢
    have r1 : ¬ (row : Int) < (n : Int) := by omega
    clear h hc hn hz
    go_enter Tryz.func312, Tryz.ntmps312
    go_wp2
    go_ret
    exact ⟨rfl, rfl⟩
set_option maxHeartbeats 1000000 in
set_option maxRecDepth 100000 in
theorem put_bool (f : Int × PT → Bool) (v : Value) (X : TR) (row : Nat) (w : World) (h : ColX w 4 1 (fun x => [.bool (f x)]) v X) (hX : X.length ≤ 1000) (y : Int × PT) :
    Calls Tryz.prog 320 #[v, .int .i64 row, .bool (f y)] w fun e w' => e = .returned (.tuple #[]) ∧ ColX w' 4 1 (fun x => [.bool (f x)]) v (X.set row y) ∧ w.grownBy w' v.ownBlock := by
  have hc : ∀ x, ((fun x => [.bool (f x)]) x : List Value).length = 1 := fun _ => rfl
  obtain ⟨n, hn⟩ : ∃ n, n = X.length := ⟨_, rfl⟩
  by_cases hlt : row < X.length
  · obtain ⟨g, cap, cur, rfl, _, hcap, hmax, _, _⟩ := h.open_ (by omega)
    have c0 := range1 (h.range hc (getD_at hlt))
    have f0 := there1 (h.there hlt)
    have hg := World.block_lt_of_cell? w _ c0
    have r0 : (0 : Int) ≤ (row : Int) := by omega
    have HS := Lib.hid (h.set_ hc hlt y)
    rw [sets1] at HS
    rw [← hn] at hlt hX hcap HS ⊢
    have r1 : (row : Int) < (n : Int) := by omega
    obtain ⟨u, hu⟩ : ∃ u, u = f (X.getD row d0) := ⟨_, rfl⟩
    rw [← hu] at c0
    obtain ⟨q, hq⟩ : ∃ q, q = f y := ⟨_, rfl⟩
    have HG := Lib.hid (grown_sets [.bool (f y)] w g (row * 1))
    rw [sets1] at HG
    rw [← hq] at HG ⊢
    simp only [← hq] at HS
    clear h hc hn hu hq
    go_enter Tryz.func320, Tryz.ntmps320
    go_wp2
    go_end0
    exact ⟨rfl, HS.out, HG.out⟩
  · obtain ⟨a, cap, rfl, hcap, hmax⟩ := h.form
    have HX := Lib.hid h
    rw [List.set_eq_of_length_le (Nat.le_of_not_lt hlt)]
    rw [← hn] at hlt hX hcap HX ⊢
    have r1 : ¬ (row : Int) < (n : Int) := by omega
    obtain ⟨q, hq⟩ : ∃ q, q = f y := ⟨_, rfl⟩
    rw [← hq]
    clear h hc hn hq
    go_enter Tryz.func320, Tryz.ntmps320
    go_wp2
    go_end0
    exact ⟨rfl, HX.out, ⟨rfl, rfl, rfl, Nat.le_refl _, fun _ _ _ => rfl⟩⟩
set_option maxHeartbeats 1000000 in
set_option maxRecDepth 100000 in
theorem cut_bool (f : Int × PT → Bool) (v : Value) (X : TR) (row : Nat) (w : World) (h : ColX w 4 1 (fun x => [.bool (f x)]) v X) (hX : X.length ≤ 1000) :
    Calls Tryz.prog 285 #[v, .int .i64 row] w fun e w' => ∃ u, e = .returned u ∧ ColX w' 4 1 (fun x => [.bool (f x)]) u (cutL X row) ∧ w.grownBy w' v.ownBlock ∧ u.ownBlock = v.ownBlock := by
  have hc : ∀ x, ((fun x => [.bool (f x)]) x : List Value).length = 1 := fun _ => rfl
  obtain ⟨n, hn⟩ : ∃ n, n = X.length := ⟨_, rfl⟩
  by_cases hlt : row < X.length
  · obtain ⟨g, cap, cur, rfl, _, hcap, hmax, _, _⟩ := h.open_ (by omega)
    obtain ⟨m, rfl⟩ : ∃ m, n = m + 1 := ⟨n - 1, by omega⟩
    have c0 := range1 (h.range hc (getD_at hlt))
    have c1 := range1 (h.range hc (getD_at (i := m) (by omega)))
    have f0 := there1 (h.there hlt)
    have hg := World.block_lt_of_cell? w _ c0
    have r0 : (0 : Int) ≤ (row : Int) := by omega
    obtain ⟨zr, hzr⟩ : ∃ zr, zr = X.getD m d0 := ⟨_, rfl⟩
    have HS := h.set_ hc hlt zr
    rw [sets1] at HS
    replace HS := Lib.hid (HS.take_ hc (m := m) (by rw [List.length_set]; omega) (by rw [List.length_set]; omega))
    have eL : cutL X row = (X.set row zr).take m := by rw [hzr]; unfold cutL; rw [if_pos hlt, ← hn]; rfl
    rw [eL]
    rw [← hn] at hlt hX hcap ⊢
    have r1 : (row : Int) < ((m + 1 : Nat) : Int) := by omega
    have HG := Lib.hid (grown_sets [.bool (f zr)] w g (row * 1))
    rw [sets1] at HG
    obtain ⟨y, hy⟩ : ∃ y, y = f (X.getD row d0) := ⟨_, rfl⟩
    rw [← hy] at c0
    rw [← hzr] at c1
    obtain ⟨z, hz⟩ : ∃ z, z = f zr := ⟨_, rfl⟩
    rw [← hz] at c1 HG
    simp only [← hz] at HS
    unfold maxLen at hmax
    clear h hc hn hy eL hz hzr
    go_enter Tryz.func285, Tryz.ntmps285
    go_wp2
    go_ret
    exact ⟨_, rfl, HS.out, HG.out, rfl⟩
  · obtain ⟨a, cap, rfl, hcap, hmax⟩ := h.form
    have HX := Lib.hid h
    have eL : cutL X row = X := by unfold cutL; rw [if_neg hlt]
    rw [eL]
    rw [← hn] at hlt hX hcap HX ⊢
    have r1 : ¬ (row : Int) < (n : Int) := by omega
    clear h hc hn eL
    go_enter Tryz.func285, Tryz.ntmps285
    go_wp2
    go_ret
    exact ⟨_, rfl, HX.out, ⟨rfl, rfl, rfl, Nat.le_refl _, fun _ _ _ => rfl⟩, rfl⟩

set_option maxHeartbeats 1000000 in
set_option maxRecDepth 100000 in
theorem cut_id (f : Int × PT → Int) (v : Value) (X : TR) (row : Nat) (w : World) (h : ColX w 81 1 (fun x => [.int .i64 (f x)]) v X) (hX : X.length ≤ 1000) :
    Calls Tryz.prog 281 #[v, .int .i64 row] w fun e w' => ∃ u, e = .returned u ∧ ColX w' 81 1 (fun x => [.int .i64 (f x)]) u (cutL X row) ∧ w.grownBy w' v.ownBlock ∧ u.ownBlock = v.ownBlock := by
  have hc : ∀ x, ((fun x => [.int .i64 (f x)]) x : List Value).length = 1 := fun _ => rfl
  obtain ⟨n, hn⟩ : ∃ n, n = X.length := ⟨_, rfl⟩
  by_cases hlt : row < X.length
  · obtain ⟨g, cap, cur, rfl, _, hcap, hmax, _, _⟩ := h.open_ (by omega)
    obtain ⟨m, rfl⟩ : ∃ m, n = m + 1 := ⟨n - 1, by omega⟩
    have c0 := range1 (h.range hc (getD_at hlt))
    have c1 := range1 (h.range hc (getD_at (i := m) (by omega)))
    have f0 := there1 (h.there hlt)
    have hg := World.block_lt_of_cell? w _ c0
    have r0 : (0 : Int) ≤ (row : Int) := by omega
    obtain ⟨zr, hzr⟩ : ∃ zr, zr = X.getD m d0 := ⟨_, rfl⟩
    have HS := h.set_ hc hlt zr
    rw [sets1] at HS
    replace HS := Lib.hid (HS.take_ hc (m := m) (by rw [List.length_set]; omega) (by rw [List.length_set]; omega))
    have eL : cutL X row = (X.set row zr).take m := by rw [hzr]; unfold cutL; rw [if_pos hlt, ← hn]; rfl
    rw [eL]
    rw [← hn] at hlt hX hcap ⊢
    have r1 : (row : Int) < ((m + 1 : Nat) : Int) := by omega
    have HG := Lib.hid (grown_sets [.int .i64 (f zr)] w g (row * 1))
    rw [sets1] at HG
    obtain ⟨y, hy⟩ : ∃ y, y = f (X.getD row d0) := ⟨_, rfl⟩
    rw [← hy] at c0
    rw [← hzr] at c1
    obtain ⟨z, hz⟩ : ∃ z, z = f zr := ⟨_, rfl⟩
    rw [← hz] at c1 HG
    simp only [← hz] at HS
    unfold maxLen at hmax
    clear h hc hn hy eL hz hzr
    go_enter Tryz.func281, Tryz.ntmps281
    go_wp2
    go_ret
    exact ⟨_, rfl, HS.out, HG.out, rfl⟩
  · obtain ⟨a, cap, rfl, hcap, hmax⟩ := h.form
    have HX := Lib.hid h
    have eL : cutL X row = X := by unfold cutL; rw [if_neg hlt]
    rw [eL]
    rw [← hn] at hlt hX hcap HX ⊢
    have r1 : ¬ (row : Int) < (n : Int) := by omega
    clear h hc hn eL
    go_enter Tryz.func281, Tryz.ntmps281
    go_wp2
    go_ret
    exact ⟨_, rfl, HX.out, ⟨rfl, rfl, rfl, Nat.le_refl _, fun _ _ _ => rfl⟩, rfl⟩

theorem one_mat (M : Nat → Int) : (([.int .i64 (M 0), .int .i64 (M 1), .int .i64 (M 2), .int .i64 (M 3), .int .i64 (M 4), .int .i64 (M 5), .int .i64 (M 6), .int .i64 (M 7), .int .i64 (M 8), .int .i64 (M 9), .int .i64 (M 10), .int .i64 (M 11)] : List Value).toArray.all (·.oneCell') = true) := all_oneCell_toArray (fun v hv => by
  simp only [List.mem_cons, List.not_mem_nil, or_false] at hv
  rcases hv with rfl | rfl | rfl | rfl | rfl | rfl | rfl | rfl | rfl | rfl | rfl | rfl <;> rfl)
theorem info_mat : (Tryz.prog.info? 46).map (·.size) = some 12 := by kernel_rfl
set_option maxHeartbeats 1000000 in
set_option maxRecDepth 100000 in
theorem at_mat (f : Int × PT → Nat → Int) (v : Value) (X : TR) (row : Nat) (w : World) (h : ColX w 46 12 (fun x => [.int .i64 (f x 0), .int .i64 (f x 1), .int .i64 (f x 2), .int .i64 (f x 3), .int .i64 (f x 4), .int .i64 (f x 5), .int .i64 (f x 6), .int .i64 (f x 7), .int .i64 (f x 8), .int .i64 (f x 9), .int .i64 (f x 10), .int .i64 (f x 11)]) v X) (hX : X.length ≤ 1000) (hz : ∀ j, f d0 j = 0) :
    Calls Tryz.prog 309 #[v, .int .i64 row] w fun e w' => e = .returned (.agg #[.int .i64 (f (X.getD row d0) 0), .int .i64 (f (X.getD row d0) 1), .int .i64 (f (X.getD row d0) 2), .int .i64 (f (X.getD row d0) 3), .int .i64 (f (X.getD row d0) 4), .int .i64 (f (X.getD row d0) 5), .int .i64 (f (X.getD row d0) 6), .int .i64 (f (X.getD row d0) 7), .int .i64 (f (X.getD row d0) 8), .int .i64 (f (X.getD row d0) 9), .int .i64 (f (X.getD row d0) 10), .int .i64 (f (X.getD row d0) 11)]) ∧ Below w.heap.size w w' := by
  have hc : ∀ x, ((fun x => [.int .i64 (f x 0), .int .i64 (f x 1), .int .i64 (f x 2), .int .i64 (f x 3), .int .i64 (f x 4), .int .i64 (f x 5), .int .i64 (f x 6), .int .i64 (f x 7), .int .i64 (f x 8), .int .i64 (f x 9), .int .i64 (f x 10), .int .i64 (f x 11)]) x : List Value).length = 12 := fun _ => rfl
  obtain ⟨n, hn⟩ : ∃ n, n = X.length := ⟨_, rfl⟩
  by_cases hlt : row < X.length
  · obtain ⟨g, cap, cur, rfl, hbk, hcap, hmax, _, _⟩ := h.open_ (by omega)
    have hr := h.range hc (getD_at hlt)
    have hg := hbk.lt
    have r0 : (0 : Int) ≤ (row : Int) := by omega
    obtain ⟨Y, hY⟩ : ∃ Y : List Value, Y = [.int .i64 (f (X.getD row d0) 0), .int .i64 (f (X.getD row d0) 1), .int .i64 (f (X.getD row d0) 2), .int .i64 (f (X.getD row d0) 3), .int .i64 (f (X.getD row d0) 4), .int .i64 (f (X.getD row d0) 5), .int .i64 (f (X.getD row d0) 6), .int .i64 (f (X.getD row d0) 7), .int .i64 (f (X.getD row d0) 8), .int .i64 (f (X.getD row d0) 9), .int .i64 (f (X.getD row d0) 10), .int .i64 (f (X.getD row d0) 11)] := ⟨_, rfl⟩
    have hY1 : Y.length = 12 := by rw [hY]; rfl
    have hY2 : Y.toArray.all (·.oneCell') = true := by rw [hY]; exact one_mat _
    rw [show (#[.int .i64 (f (X.getD row d0) 0), .int .i64 (f (X.getD row d0) 1), .int .i64 (f (X.getD row d0) 2), .int .i64 (f (X.getD row d0) 3), .int .i64 (f (X.getD row d0) 4), .int .i64 (f (X.getD row d0) 5), .int .i64 (f (X.getD row d0) 6), .int .i64 (f (X.getD row d0) 7), .int .i64 (f (X.getD row d0) 8), .int .i64 (f (X.getD row d0) 9), .int .i64 (f (X.getD row d0) 10), .int .i64 (f (X.getD row d0) 11)] : Array Value) = Y.toArray by rw [hY]]
    simp only [← hY] at hr
    have HSz : Hid ((Tryz.prog.info? 46).map (·.size) = some Y.length) := Lib.hid (by rw [hY1]; exact info_mat)
    have HSz' : Hid ((Tryz.prog.info? 46).map (·.size) = some Y.toArray.size) := Lib.hid (by rw [List.size_toArray, hY1]; exact info_mat)
    have HO := Lib.hid hY2
    have HL := Lib.hid hY1
    have HR : Hid (((w.alloc (.cells #[.int .i64 0, .int .i64 0, .int .i64 0, .int .i64 0, .int .i64 0, .int .i64 0, .int .i64 0, .int .i64 0, .int .i64 0, .int .i64 0, .int .i64 0, .int .i64 0] 46)).alloc (.cells #[.int .i64 0, .int .i64 0, .int .i64 0, .int .i64 0, .int .i64 0, .int .i64 0, .int .i64 0, .int .i64 0, .int .i64 0, .int .i64 0, .int .i64 0, .int .i64 0] 46)).rangeAt g (row * 12) Y) := Lib.hid (range_same hr ((balloc (alloc_below _ _) _).block g hg))
    have K5 : Hid (Blk ((w.alloc (.cells #[.int .i64 0, .int .i64 0, .int .i64 0, .int .i64 0, .int .i64 0, .int .i64 0, .int .i64 0, .int .i64 0, .int .i64 0, .int .i64 0, .int .i64 0, .int .i64 0] 46)).alloc (.cells #[.int .i64 0, .int .i64 0, .int .i64 0, .int .i64 0, .int .i64 0, .int .i64 0, .int .i64 0, .int .i64 0, .int .i64 0, .int .i64 0, .int .i64 0, .int .i64 0] 46)) (w.heap.size + 1) 46 ([.int .i64 0, .int .i64 0, .int .i64 0, .int .i64 0, .int .i64 0, .int .i64 0, .int .i64 0, .int .i64 0, .int .i64 0, .int .i64 0, .int .i64 0, .int .i64 0] : List Value).toArray) := Lib.hid (blkAt (Blk.new (w.alloc (.cells #[.int .i64 0, .int .i64 0, .int .i64 0, .int .i64 0, .int .i64 0, .int .i64 0, .int .i64 0, .int .i64 0, .int .i64 0, .int .i64 0, .int .i64 0, .int .i64 0] 46)) 46 #[.int .i64 0, .int .i64 0, .int .i64 0, .int .i64 0, .int .i64 0, .int .i64 0, .int .i64 0, .int .i64 0, .int .i64 0, .int .i64 0, .int .i64 0, .int .i64 0]) (by simp))
    have K4 : Hid (Blk ((w.alloc (.cells #[.int .i64 0, .int .i64 0, .int .i64 0, .int .i64 0, .int .i64 0, .int .i64 0, .int .i64 0, .int .i64 0, .int .i64 0, .int .i64 0, .int .i64 0, .int .i64 0] 46)).alloc (.cells #[.int .i64 0, .int .i64 0, .int .i64 0, .int .i64 0, .int .i64 0, .int .i64 0, .int .i64 0, .int .i64 0, .int .i64 0, .int .i64 0, .int .i64 0, .int .i64 0] 46)) w.heap.size 46 ([.int .i64 0, .int .i64 0, .int .i64 0, .int .i64 0, .int .i64 0, .int .i64 0, .int .i64 0, .int .i64 0, .int .i64 0, .int .i64 0, .int .i64 0, .int .i64 0] : List Value).toArray) := Lib.hid ((Blk.new w 46 #[.int .i64 0, .int .i64 0, .int .i64 0, .int .i64 0, .int .i64 0, .int .i64 0, .int .i64 0, .int .i64 0, .int .i64 0, .int .i64 0, .int .i64 0, .int .i64 0]).alloc (.cells #[.int .i64 0, .int .i64 0, .int .i64 0, .int .i64 0, .int .i64 0, .int .i64 0, .int .i64 0, .int .i64 0, .int .i64 0, .int .i64 0, .int .i64 0, .int .i64 0] 46))
    have HT5 : Hid (((w.alloc (.cells #[.int .i64 0, .int .i64 0, .int .i64 0, .int .i64 0, .int .i64 0, .int .i64 0, .int .i64 0, .int .i64 0, .int .i64 0, .int .i64 0, .int .i64 0, .int .i64 0] 46)).alloc (.cells #[.int .i64 0, .int .i64 0, .int .i64 0, .int .i64 0, .int .i64 0, .int .i64 0, .int .i64 0, .int .i64 0, .int .i64 0, .int .i64 0, .int .i64 0, .int .i64 0] 46)).there (w.heap.size + 1) 0 Y.toArray.size) := Lib.hid (blk_there K5.out (by rw [List.size_toArray, hY1]; exact Nat.le_refl 12))
    have L5 : Hid (Blk (((w.alloc (.cells #[.int .i64 0, .int .i64 0, .int .i64 0, .int .i64 0, .int .i64 0, .int .i64 0, .int .i64 0, .int .i64 0, .int .i64 0, .int .i64 0, .int .i64 0, .int .i64 0] 46)).alloc (.cells #[.int .i64 0, .int .i64 0, .int .i64 0, .int .i64 0, .int .i64 0, .int .i64 0, .int .i64 0, .int .i64 0, .int .i64 0, .int .i64 0, .int .i64 0, .int .i64 0] 46)).setCells (w.heap.size + 1) 0 Y) (w.heap.size + 1) 46 Y.toArray) := Lib.hid (blk_over K5.out hY1)
    have L4 : Hid (Blk (((w.alloc (.cells #[.int .i64 0, .int .i64 0, .int .i64 0, .int .i64 0, .int .i64 0, .int .i64 0, .int .i64 0, .int .i64 0, .int .i64 0, .int .i64 0, .int .i64 0, .int .i64 0] 46)).alloc (.cells #[.int .i64 0, .int .i64 0, .int .i64 0, .int .i64 0, .int .i64 0, .int .i64 0, .int .i64 0, .int .i64 0, .int .i64 0, .int .i64 0, .int .i64 0, .int .i64 0] 46)).setCells (w.heap.size + 1) 0 Y) w.heap.size 46 ([.int .i64 0, .int .i64 0, .int .i64 0, .int .i64 0, .int .i64 0, .int .i64 0, .int .i64 0, .int .i64 0, .int .i64 0, .int .i64 0, .int .i64 0, .int .i64 0] : List Value).toArray) := Lib.hid (blk_setFar Y K4.out (by omega))
    have HR5 : Hid ((((w.alloc (.cells #[.int .i64 0, .int .i64 0, .int .i64 0, .int .i64 0, .int .i64 0, .int .i64 0, .int .i64 0, .int .i64 0, .int .i64 0, .int .i64 0, .int .i64 0, .int .i64 0] 46)).alloc (.cells #[.int .i64 0, .int .i64 0, .int .i64 0, .int .i64 0, .int .i64 0, .int .i64 0, .int .i64 0, .int .i64 0, .int .i64 0, .int .i64 0, .int .i64 0, .int .i64 0] 46)).setCells (w.heap.size + 1) 0 Y).rangeAt (w.heap.size + 1) 0 Y) := Lib.hid (blk_whole L5.out)
    have HT4 : Hid ((((w.alloc (.cells #[.int .i64 0, .int .i64 0, .int .i64 0, .int .i64 0, .int .i64 0, .int .i64 0, .int .i64 0, .int .i64 0, .int .i64 0, .int .i64 0, .int .i64 0, .int .i64 0] 46)).alloc (.cells #[.int .i64 0, .int .i64 0, .int .i64 0, .int .i64 0, .int .i64 0, .int .i64 0, .int .i64 0, .int .i64 0, .int .i64 0, .int .i64 0, .int .i64 0, .int .i64 0] 46)).setCells (w.heap.size + 1) 0 Y).there w.heap.size 0 Y.toArray.size) := Lib.hid (blk_there L4.out (by rw [List.size_toArray, hY1]; exact Nat.le_refl 12))
    have M4 : Hid (Blk ((((w.alloc (.cells #[.int .i64 0, .int .i64 0, .int .i64 0, .int .i64 0, .int .i64 0, .int .i64 0, .int .i64 0, .int .i64 0, .int .i64 0, .int .i64 0, .int .i64 0, .int .i64 0] 46)).alloc (.cells #[.int .i64 0, .int .i64 0, .int .i64 0, .int .i64 0, .int .i64 0, .int .i64 0, .int .i64 0, .int .i64 0, .int .i64 0, .int .i64 0, .int .i64 0, .int .i64 0] 46)).setCells (w.heap.size + 1) 0 Y).setCells w.heap.size 0 Y) w.heap.size 46 Y.toArray) := Lib.hid (blk_over L4.out hY1)
    have HB : Hid (Below w.heap.size w ((((w.alloc (.cells #[.int .i64 0, .int .i64 0, .int .i64 0, .int .i64 0, .int .i64 0, .int .i64 0, .int .i64 0, .int .i64 0, .int .i64 0, .int .i64 0, .int .i64 0, .int .i64 0] 46)).alloc (.cells #[.int .i64 0, .int .i64 0, .int .i64 0, .int .i64 0, .int .i64 0, .int .i64 0, .int .i64 0, .int .i64 0, .int .i64 0, .int .i64 0, .int .i64 0, .int .i64 0] 46)).setCells (w.heap.size + 1) 0 Y).setCells w.heap.size 0 Y)) := Lib.hid (below_setCells _ (below_setCells _ (balloc (alloc_below _ _) _) (by omega)) (Nat.le_refl _))
    rw [← hn] at hlt hX hcap ⊢
    have r1 : (row : Int) < (n : Int) := by omega
    clear h hc hn hz hr hY hbk hY1 hY2
    go_enter Tryz.func309, Tryz.ntmps309
    go_wp2_with (first | refine wpList_load_mid rfl 46 (.tmp 12) rfl g (row * 12) rfl Y _ HR.out Tryz.underlying46 rfl HSz.out ?_ | refine wpList_store_mid rfl 46 (.tmp 5) (.tmp 13) rfl (w.heap.size + 1) 0 Y.toArray rfl rfl HT5.out HSz'.out HO.out ?_ | refine wpList_load_mid rfl 46 (.tmp 5) rfl (w.heap.size + 1) 0 rfl Y _ HR5.out Tryz.underlying46 rfl HSz.out ?_ | refine wpList_store_mid rfl 46 (.tmp 4) (.tmp 14) rfl w.heap.size 0 Y.toArray rfl rfl HT4.out HSz'.out HO.out ?_)
    refine fin (fun W => Blk W w.heap.size 46 Y.toArray ∧ Below w.heap.size w W) ⟨M4.out, HB.out⟩ ?_
    rintro W ⟨kr, hb⟩
    have hl := run_loadVar_mid W w.heap.size 0 46 Y _ (blk_whole kr) Tryz.underlying46 rfl HSz.out
    try simp only [Act.put, List.setIfInBounds_toArray, List.set_cons_zero, List.set_cons_succ]
    exact bodyPost_ret (v := .agg Y.toArray) (results_cell Tryz.results309 rfl hl) rfl ⟨rfl, hb⟩
  · obtain ⟨a, cap, rfl, hcap, hmax⟩ := h.form
    rw [getD_no hlt]
    simp only [hz]
    obtain ⟨Y, hY⟩ : ∃ Y : List Value, Y = [.int .i64 0, .int .i64 0, .int .i64 0, .int .i64 0, .int .i64 0, .int .i64 0, .int .i64 0, .int .i64 0, .int .i64 0, .int .i64 0, .int .i64 0, .int .i64 0] := ⟨_, rfl⟩
    have hY1 : Y.length = 12 := by rw [hY]; rfl
    have hY2 : Y.toArray.all (·.oneCell') = true := by rw [hY]; exact one_mat (fun _ => 0)
    rw [show (#[.int .i64 0, .int .i64 0, .int .i64 0, .int .i64 0, .int .i64 0, .int .i64 0, .int .i64 0, .int .i64 0, .int .i64 0, .int .i64 0, .int .i64 0, .int .i64 0] : Array Value) = Y.toArray by rw [hY]]
    have HSz : Hid ((Tryz.prog.info? 46).map (·.size) = some Y.length) := Lib.hid (by rw [hY1]; exact info_mat)
    have HSz' : Hid ((Tryz.prog.info? 46).map (·.size) = some Y.toArray.size) := Lib.hid (by rw [List.size_toArray, hY1]; exact info_mat)
    have HO := Lib.hid hY2
    have HL := Lib.hid hY1
    have K5 : Hid (Blk ((w.alloc (.cells #[.int .i64 0, .int .i64 0, .int .i64 0, .int .i64 0, .int .i64 0, .int .i64 0, .int .i64 0, .int .i64 0, .int .i64 0, .int .i64 0, .int .i64 0, .int .i64 0] 46)).alloc (.cells #[.int .i64 0, .int .i64 0, .int .i64 0, .int .i64 0, .int .i64 0, .int .i64 0, .int .i64 0, .int .i64 0, .int .i64 0, .int .i64 0, .int .i64 0, .int .i64 0] 46)) (w.heap.size + 1) 46 Y.toArray) := Lib.hid (by rw [hY]; exact blkAt (Blk.new (w.alloc (.cells #[.int .i64 0, .int .i64 0, .int .i64 0, .int .i64 0, .int .i64 0, .int .i64 0, .int .i64 0, .int .i64 0, .int .i64 0, .int .i64 0, .int .i64 0, .int .i64 0] 46)) 46 #[.int .i64 0, .int .i64 0, .int .i64 0, .int .i64 0, .int .i64 0, .int .i64 0, .int .i64 0, .int .i64 0, .int .i64 0, .int .i64 0, .int .i64 0, .int .i64 0]) (by simp))
    have K4 : Hid (Blk ((w.alloc (.cells #[.int .i64 0, .int .i64 0, .int .i64 0, .int .i64 0, .int .i64 0, .int .i64 0, .int .i64 0, .int .i64 0, .int .i64 0, .int .i64 0, .int .i64 0, .int .i64 0] 46)).alloc (.cells #[.int .i64 0, .int .i64 0, .int .i64 0, .int .i64 0, .int .i64 0, .int .i64 0, .int .i64 0, .int .i64 0, .int .i64 0, .int .i64 0, .int .i64 0, .int .i64 0] 46)) w.heap.size 46 Y.toArray) := Lib.hid (by rw [hY]; exact (Blk.new w 46 #[.int .i64 0, .int .i64 0, .int .i64 0, .int .i64 0, .int .i64 0, .int .i64 0, .int .i64 0, .int .i64 0, .int .i64 0, .int .i64 0, .int .i64 0, .int .i64 0]).alloc (.cells #[.int .i64 0, .int .i64 0, .int .i64 0, .int .i64 0, .int .i64 0, .int .i64 0, .int .i64 0, .int .i64 0, .int .i64 0, .int .i64 0, .int .i64 0, .int .i64 0] 46))
    have HR5 : Hid (((w.alloc (.cells #[.int .i64 0, .int .i64 0, .int .i64 0, .int .i64 0, .int .i64 0, .int .i64 0, .int .i64 0, .int .i64 0, .int .i64 0, .int .i64 0, .int .i64 0, .int .i64 0] 46)).alloc (.cells #[.int .i64 0, .int .i64 0, .int .i64 0, .int .i64 0, .int .i64 0, .int .i64 0, .int .i64 0, .int .i64 0, .int .i64 0, .int .i64 0, .int .i64 0, .int .i64 0] 46)).rangeAt (w.heap.size + 1) 0 Y) := Lib.hid (blk_whole K5.out)
    have HT4 : Hid (((w.alloc (.cells #[.int .i64 0, .int .i64 0, .int .i64 0, .int .i64 0, .int .i64 0, .int .i64 0, .int .i64 0, .int .i64 0, .int .i64 0, .int .i64 0, .int .i64 0, .int .i64 0] 46)).alloc (.cells #[.int .i64 0, .int .i64 0, .int .i64 0, .int .i64 0, .int .i64 0, .int .i64 0, .int .i64 0, .int .i64 0, .int .i64 0, .int .i64 0, .int .i64 0, .int .i64 0] 46)).there w.heap.size 0 Y.toArray.size) := Lib.hid (blk_there K4.out (by rw [List.size_toArray]; omega))
    have M4 : Hid (Blk (((w.alloc (.cells #[.int .i64 0, .int .i64 0, .int .i64 0, .int .i64 0, .int .i64 0, .int .i64 0, .int .i64 0, .int .i64 0, .int .i64 0, .int .i64 0, .int .i64 0, .int .i64 0] 46)).alloc (.cells #[.int .i64 0, .int .i64 0, .int .i64 0, .int .i64 0, .int .i64 0, .int .i64 0, .int .i64 0, .int .i64 0, .int .i64 0, .int .i64 0, .int .i64 0, .int .i64 0] 46)).setCells w.heap.size 0 Y) w.heap.size 46 Y.toArray) := Lib.hid (blk_over K4.out rfl)
    have HB : Hid (Below w.heap.size w (((w.alloc (.cells #[.int .i64 0, .int .i64 0, .int .i64 0, .int .i64 0, .int .i64 0, .int .i64 0, .int .i64 0, .int .i64 0, .int .i64 0, .int .i64 0, .int .i64 0, .int .i64 0] 46)).alloc (.cells #[.int .i64 0, .int .i64 0, .int .i64 0, .int .i64 0, .int .i64 0, .int .i64 0, .int .i64 0, .int .i64 0, .int .i64 0, .int .i64 0, .int .i64 0, .int .i64 0] 46)).setCells w.heap.size 0 Y)) := Lib.hid (below_setCells _ (balloc (alloc_below _ _) _) (Nat.le_refl _))
    rw [← hn] at hlt hX hcap ⊢
    have r1 : ¬ (row : Int) < (n : Int) := by omega
    clear h hc hn hz hY hY1 hY2
    go_enter Tryz.func309, Tryz.ntmps309
    go_wp2_with (first | refine wpList_load_mid rfl 46 (.tmp 5) rfl (w.heap.size + 1) 0 rfl Y _ HR5.out Tryz.underlying46 rfl HSz.out ?_ | refine wpList_store_mid rfl 46 (.tmp 4) (.tmp 14) rfl w.heap.size 0 Y.toArray rfl rfl HT4.out HSz'.out HO.out ?_)
    refine fin (fun W => Blk W w.heap.size 46 Y.toArray ∧ Below w.heap.size w W) ⟨M4.out, HB.out⟩ ?_
    rintro W ⟨kr, hb⟩
    have hl := run_loadVar_mid W w.heap.size 0 46 Y _ (blk_whole kr) Tryz.underlying46 rfl HSz.out
    try simp only [Act.put, List.setIfInBounds_toArray, List.set_cons_zero, List.set_cons_succ]
    exact bodyPost_ret (v := .agg Y.toArray) (results_cell Tryz.results309 rfl hl) rfl ⟨rfl, hb⟩
set_option maxHeartbeats 1000000 in
set_option maxRecDepth 100000 in
theorem put_mat (f : Int × PT → Nat → Int) (v : Value) (X : TR) (row : Nat) (w : World) (h : ColX w 46 12 (fun x => [.int .i64 (f x 0), .int .i64 (f x 1), .int .i64 (f x 2), .int .i64 (f x 3), .int .i64 (f x 4), .int .i64 (f x 5), .int .i64 (f x 6), .int .i64 (f x 7), .int .i64 (f x 8), .int .i64 (f x 9), .int .i64 (f x 10), .int .i64 (f x 11)]) v X) (hX : X.length ≤ 1000) (y : Int × PT) :
    Calls Tryz.prog 317 #[v, .int .i64 row, .agg #[.int .i64 (f y 0), .int .i64 (f y 1), .int .i64 (f y 2), .int .i64 (f y 3), .int .i64 (f y 4), .int .i64 (f y 5), .int .i64 (f y 6), .int .i64 (f y 7), .int .i64 (f y 8), .int .i64 (f y 9), .int .i64 (f y 10), .int .i64 (f y 11)]] w fun e w' => e = .returned (.tuple #[]) ∧ ColX w' 46 12 (fun x => [.int .i64 (f x 0), .int .i64 (f x 1), .int .i64 (f x 2), .int .i64 (f x 3), .int .i64 (f x 4), .int .i64 (f x 5), .int .i64 (f x 6), .int .i64 (f x 7), .int .i64 (f x 8), .int .i64 (f x 9), .int .i64 (f x 10), .int .i64 (f x 11)]) v (X.set row y) ∧ w.grownBy w' v.ownBlock := by
  have hc : ∀ x, ((fun x => [.int .i64 (f x 0), .int .i64 (f x 1), .int .i64 (f x 2), .int .i64 (f x 3), .int .i64 (f x 4), .int .i64 (f x 5), .int .i64 (f x 6), .int .i64 (f x 7), .int .i64 (f x 8), .int .i64 (f x 9), .int .i64 (f x 10), .int .i64 (f x 11)]) x : List Value).length = 12 := fun _ => rfl
  obtain ⟨n, hn⟩ : ∃ n, n = X.length := ⟨_, rfl⟩
  obtain ⟨Y, hY⟩ : ∃ Y : List Value, Y = [.int .i64 (f y 0), .int .i64 (f y 1), .int .i64 (f y 2), .int .i64 (f y 3), .int .i64 (f y 4), .int .i64 (f y 5), .int .i64 (f y 6), .int .i64 (f y 7), .int .i64 (f y 8), .int .i64 (f y 9), .int .i64 (f y 10), .int .i64 (f y 11)] := ⟨_, rfl⟩
  have hY1 : Y.length = 12 := by rw [hY]; rfl
  have hY2 : Y.toArray.all (·.oneCell') = true := by rw [hY]; exact one_mat _
  rw [show (#[.int .i64 (f y 0), .int .i64 (f y 1), .int .i64 (f y 2), .int .i64 (f y 3), .int .i64 (f y 4), .int .i64 (f y 5), .int .i64 (f y 6), .int .i64 (f y 7), .int .i64 (f y 8), .int .i64 (f y 9), .int .i64 (f y 10), .int .i64 (f y 11)] : Array Value) = Y.toArray by rw [hY]]
  by_cases hlt : row < X.length
  · obtain ⟨g, cap, cur, rfl, hbk, hcap, hmax, _, _⟩ := h.open_ (by omega)
    have hg := hbk.lt
    have r0 : (0 : Int) ≤ (row : Int) := by omega
    have HSz : Hid ((Tryz.prog.info? 46).map (·.size) = some Y.length) := Lib.hid (by rw [hY1]; exact info_mat)
    have HSz' : Hid ((Tryz.prog.info? 46).map (·.size) = some Y.toArray.size) := Lib.hid (by rw [List.size_toArray, hY1]; exact info_mat)
    have HO := Lib.hid hY2
    have HL := Lib.hid hY1
    have h1 : ColX (w.alloc (.cells Y.toArray 46)) 46 12 (fun x => [.int .i64 (f x 0), .int .i64 (f x 1), .int .i64 (f x 2), .int .i64 (f x 3), .int .i64 (f x 4), .int .i64 (f x 5), .int .i64 (f x 6), .int .i64 (f x 7), .int .i64 (f x 8), .int .i64 (f x 9), .int .i64 (f x 10), .int .i64 (f x 11)]) (.slice (some ⟨g, 0, none⟩) X.length cap) X := h.kept (World.grownBy_alloc w _ none) (by simp [Value.ownBlock])
    have KB := Lib.hid (Blk.new w 46 Y.toArray)
    have HR : Hid ((w.alloc (.cells Y.toArray 46)).rangeAt w.heap.size 0 Y) := Lib.hid (blk_whole KB.out)
    have HT : Hid ((w.alloc (.cells Y.toArray 46)).there g (row * 12) Y.toArray.size) := Lib.hid (by rw [List.size_toArray, hY1]; exact h1.there hlt)
    have HS := h1.set_ hc hlt y
    simp only [← hY] at HS
    replace HS := Lib.hid HS
    have HG : Hid (w.grownBy ((w.alloc (.cells Y.toArray 46)).setCells g (row * 12) Y) (some g)) := Lib.hid ((World.grownBy_alloc w _ _).trans (grown_sets Y _ g (row * 12)))
    rw [← hn] at hlt hX hcap HS ⊢
    have r1 : (row : Int) < (n : Int) := by omega
    clear h hc hn hY hbk hY1 hY2 h1
    go_enter Tryz.func317, Tryz.ntmps317
    go_wp2_with (first | refine wpList_load_mid rfl 46 (.tmp 5) rfl w.heap.size 0 rfl Y _ HR.out Tryz.underlying46 rfl HSz.out ?_ | refine wpList_store_mid rfl 46 (.tmp 13) (.tmp 12) rfl g (row * 12) Y.toArray rfl rfl HT.out HSz'.out HO.out ?_)
    go_end0
    exact ⟨rfl, HS.out, HG.out⟩
  · obtain ⟨a, cap, rfl, hcap, hmax⟩ := h.form
    have HX : Hid (ColX (w.alloc (.cells Y.toArray 46)) 46 12 (fun x => [.int .i64 (f x 0), .int .i64 (f x 1), .int .i64 (f x 2), .int .i64 (f x 3), .int .i64 (f x 4), .int .i64 (f x 5), .int .i64 (f x 6), .int .i64 (f x 7), .int .i64 (f x 8), .int .i64 (f x 9), .int .i64 (f x 10), .int .i64 (f x 11)]) (.slice a X.length cap) X) := Lib.hid (h.kept (World.grownBy_alloc w _ none) (by cases hv : (Value.slice a X.length cap).ownBlock <;> simp))
    rw [List.set_eq_of_length_le (Nat.le_of_not_lt hlt)]
    rw [← hn] at hlt hX hcap HX ⊢
    have r1 : ¬ (row : Int) < (n : Int) := by omega
    clear h hc hn hY hY1 hY2
    go_enter Tryz.func317, Tryz.ntmps317
    go_wp2
    go_end0
    exact ⟨rfl, HX.out, World.grownBy_alloc _ _ _⟩
set_option maxHeartbeats 1000000 in
set_option maxRecDepth 100000 in
theorem cut_mat (f : Int × PT → Nat → Int) (v : Value) (X : TR) (row : Nat) (w : World) (h : ColX w 46 12 (fun x => [.int .i64 (f x 0), .int .i64 (f x 1), .int .i64 (f x 2), .int .i64 (f x 3), .int .i64 (f x 4), .int .i64 (f x 5), .int .i64 (f x 6), .int .i64 (f x 7), .int .i64 (f x 8), .int .i64 (f x 9), .int .i64 (f x 10), .int .i64 (f x 11)]) v X) (hX : X.length ≤ 1000) :
    Calls Tryz.prog 282 #[v, .int .i64 row] w fun e w' => ∃ u, e = .returned u ∧ ColX w' 46 12 (fun x => [.int .i64 (f x 0), .int .i64 (f x 1), .int .i64 (f x 2), .int .i64 (f x 3), .int .i64 (f x 4), .int .i64 (f x 5), .int .i64 (f x 6), .int .i64 (f x 7), .int .i64 (f x 8), .int .i64 (f x 9), .int .i64 (f x 10), .int .i64 (f x 11)]) u (cutL X row) ∧ w.grownBy w' v.ownBlock ∧ u.ownBlock = v.ownBlock := by
  have hc : ∀ x, ((fun x => [.int .i64 (f x 0), .int .i64 (f x 1), .int .i64 (f x 2), .int .i64 (f x 3), .int .i64 (f x 4), .int .i64 (f x 5), .int .i64 (f x 6), .int .i64 (f x 7), .int .i64 (f x 8), .int .i64 (f x 9), .int .i64 (f x 10), .int .i64 (f x 11)]) x : List Value).length = 12 := fun _ => rfl
  obtain ⟨n, hn⟩ : ∃ n, n = X.length := ⟨_, rfl⟩
  by_cases hlt : row < X.length
  · obtain ⟨g, cap, cur, rfl, hbk, hcap, hmax, _, _⟩ := h.open_ (by omega)
    obtain ⟨m, rfl⟩ : ∃ m, n = m + 1 := ⟨n - 1, by omega⟩
    have hr := h.range hc (getD_at (i := m) (by omega))
    have hg := hbk.lt
    obtain ⟨zr, hzr⟩ : ∃ zr, zr = X.getD m d0 := ⟨_, rfl⟩
    rw [← hzr] at hr
    have r0 : (0 : Int) ≤ (row : Int) := by omega
    obtain ⟨Y, hY⟩ : ∃ Y : List Value, Y = [.int .i64 (f zr 0), .int .i64 (f zr 1), .int .i64 (f zr 2), .int .i64 (f zr 3), .int .i64 (f zr 4), .int .i64 (f zr 5), .int .i64 (f zr 6), .int .i64 (f zr 7), .int .i64 (f zr 8), .int .i64 (f zr 9), .int .i64 (f zr 10), .int .i64 (f zr 11)] := ⟨_, rfl⟩
    have hY1 : Y.length = 12 := by rw [hY]; rfl
    have hY2 : Y.toArray.all (·.oneCell') = true := by rw [hY]; exact one_mat _
    have HSz : Hid ((Tryz.prog.info? 46).map (·.size) = some Y.length) := Lib.hid (by rw [hY1]; exact info_mat)
    have HSz' : Hid ((Tryz.prog.info? 46).map (·.size) = some Y.toArray.size) := Lib.hid (by rw [List.size_toArray, hY1]; exact info_mat)
    have HO := Lib.hid hY2
    have HL := Lib.hid hY1
    have HS := h.set_ hc hlt zr
    simp only [← hY] at hr HS
    have HR := Lib.hid hr
    have HT : Hid (w.there g (row * 12) Y.toArray.size) := Lib.hid (by rw [List.size_toArray, hY1]; exact h.there hlt)
    replace HS := Lib.hid (HS.take_ hc (m := m) (by rw [List.length_set]; omega) (by rw [List.length_set]; omega))
    have eL : cutL X row = (X.set row zr).take m := by rw [hzr]; unfold cutL; rw [if_pos hlt, ← hn]; rfl
    rw [eL]
    rw [← hn] at hlt hX hcap ⊢
    have r1 : (row : Int) < ((m + 1 : Nat) : Int) := by omega
    have HG := Lib.hid (grown_sets Y w g (row * 12))
    unfold maxLen at hmax
    clear h hc hn hY hbk hY1 hY2 hr eL hzr
    go_enter Tryz.func282, Tryz.ntmps282
    go_wp2_with (first | refine wpList_load_mid rfl 46 (.tmp 18) rfl g (m * 12) rfl Y _ HR.out Tryz.underlying46 rfl HSz.out ?_ | refine wpList_store_mid rfl 46 (.tmp 20) (.tmp 19) rfl g (row * 12) Y.toArray rfl rfl HT.out HSz'.out HO.out ?_)
    go_ret
    exact ⟨_, rfl, HS.out, HG.out, rfl⟩
  · obtain ⟨a, cap, rfl, hcap, hmax⟩ := h.form
    have HX := Lib.hid h
    have eL : cutL X row = X := by unfold cutL; rw [if_neg hlt]
    rw [eL]
    rw [← hn] at hlt hX hcap HX ⊢
    have r1 : ¬ (row : Int) < (n : Int) := by omega
    clear h hc hn eL
    go_enter Tryz.func282, Tryz.ntmps282
    go_wp2
    go_ret
    exact ⟨_, rfl, HX.out, ⟨rfl, rfl, rfl, Nat.le_refl _, fun _ _ _ => rfl⟩, rfl⟩

theorem one_box (M : Nat → Int) : (([.int .i64 (M 0), .int .i64 (M 1), .int .i64 (M 2), .int .i64 (M 3), .int .i64 (M 4), .int .i64 (M 5)] : List Value).toArray.all (·.oneCell') = true) := all_oneCell_toArray (fun v hv => by
  simp only [List.mem_cons, List.not_mem_nil, or_false] at hv
  rcases hv with rfl | rfl | rfl | rfl | rfl | rfl <;> rfl)
theorem info_box : (Tryz.prog.info? 50).map (·.size) = some 6 := by kernel_rfl
set_option maxHeartbeats 1000000 in
set_option maxRecDepth 100000 in
theorem at_box (f : Int × PT → Nat → Int) (v : Value) (X : TR) (row : Nat) (w : World) (h : ColX w 50 6 (fun x => [.int .i64 (f x 0), .int .i64 (f x 1), .int .i64 (f x 2), .int .i64 (f x 3), .int .i64 (f x 4), .int .i64 (f x 5)]) v X) (hX : X.length ≤ 1000) (hz : ∀ j, f d0 j = 0) :
    Calls Tryz.prog 311 #[v, .int .i64 row] w fun e w' => e = .returned (.agg #[.int .i64 (f (X.getD row d0) 0), .int .i64 (f (X.getD row d0) 1), .int .i64 (f (X.getD row d0) 2), .int .i64 (f (X.getD row d0) 3), .int .i64 (f (X.getD row d0) 4), .int .i64 (f (X.getD row d0) 5)]) ∧ Below w.heap.size w w' := by
  have hc : ∀ x, ((fun x => [.int .i64 (f x 0), .int .i64 (f x 1), .int .i64 (f x 2), .int .i64 (f x 3), .int .i64 (f x 4), .int .i64 (f x 5)]) x : List Value).length = 6 := fun _ => rfl
  obtain ⟨n, hn⟩ : ∃ n, n = X.length := ⟨_, rfl⟩
  by_cases hlt : row < X.length
  · obtain ⟨g, cap, cur, rfl, hbk, hcap, hmax, _, _⟩ := h.open_ (by omega)
    have hr := h.range hc (getD_at hlt)
    have hg := hbk.lt
    have r0 : (0 : Int) ≤ (row : Int) := by omega
    obtain ⟨Y, hY⟩ : ∃ Y : List Value, Y = [.int .i64 (f (X.getD row d0) 0), .int .i64 (f (X.getD row d0) 1), .int .i64 (f (X.getD row d0) 2), .int .i64 (f (X.getD row d0) 3), .int .i64 (f (X.getD row d0) 4), .int .i64 (f (X.getD row d0) 5)] := ⟨_, rfl⟩
    have hY1 : Y.length = 6 := by rw [hY]; rfl
    have hY2 : Y.toArray.all (·.oneCell') = true := by rw [hY]; exact one_box _
    rw [show (#[.int .i64 (f (X.getD row d0) 0), .int .i64 (f (X.getD row d0) 1), .int .i64 (f (X.getD row d0) 2), .int .i64 (f (X.getD row d0) 3), .int .i64 (f (X.getD row d0) 4), .int .i64 (f (X.getD row d0) 5)] : Array Value) = Y.toArray by rw [hY]]
    simp only [← hY] at hr
    have HSz : Hid ((Tryz.prog.info? 50).map (·.size) = some Y.length) := Lib.hid (by rw [hY1]; exact info_box)
    have HSz' : Hid ((Tryz.prog.info? 50).map (·.size) = some Y.toArray.size) := Lib.hid (by rw [List.size_toArray, hY1]; exact info_box)
    have HO := Lib.hid hY2
    have HL := Lib.hid hY1
    have HR : Hid (((w.alloc (.cells #[.int .i64 0, .int .i64 0, .int .i64 0, .int .i64 0, .int .i64 0, .int .i64 0] 50)).alloc (.cells #[.int .i64 0, .int .i64 0, .int .i64 0, .int .i64 0, .int .i64 0, .int .i64 0] 50)).rangeAt g (row * 6) Y) := Lib.hid (range_same hr ((balloc (alloc_below _ _) _).block g hg))
    have K5 : Hid (Blk ((w.alloc (.cells #[.int .i64 0, .int .i64 0, .int .i64 0, .int .i64 0, .int .i64 0, .int .i64 0] 50)).alloc (.cells #[.int .i64 0, .int .i64 0, .int .i64 0, .int .i64 0, .int .i64 0, .int .i64 0] 50)) (w.heap.size + 1) 50 ([.int .i64 0, .int .i64 0, .int .i64 0, .int .i64 0, .int .i64 0, .int .i64 0] : List Value).toArray) := Lib.hid (blkAt (Blk.new (w.alloc (.cells #[.int .i64 0, .int .i64 0, .int .i64 0, .int .i64 0, .int .i64 0, .int .i64 0] 50)) 50 #[.int .i64 0, .int .i64 0, .int .i64 0, .int .i64 0, .int .i64 0, .int .i64 0]) (by simp))
    have K4 : Hid (Blk ((w.alloc (.cells #[.int .i64 0, .int .i64 0, .int .i64 0, .int .i64 0, .int .i64 0, .int .i64 0] 50)).alloc (.cells #[.int .i64 0, .int .i64 0, .int .i64 0, .int .i64 0, .int .i64 0, .int .i64 0] 50)) w.heap.size 50 ([.int .i64 0, .int .i64 0, .int .i64 0, .int .i64 0, .int .i64 0, .int .i64 0] : List Value).toArray) := Lib.hid ((Blk.new w 50 #[.int .i64 0, .int .i64 0, .int .i64 0, .int .i64 0, .int .i64 0, .int .i64 0]).alloc (.cells #[.int .i64 0, .int .i64 0, .int .i64 0, .int .i64 0, .int .i64 0, .int .i64 0] 50))
    have HT5 : Hid (((w.alloc (.cells #[.int .i64 0, .int .i64 0, .int .i64 0, .int .i64 0, .int .i64 0, .int .i64 0] 50)).alloc (.cells #[.int .i64 0, .int .i64 0, .int .i64 0, .int .i64 0, .int .i64 0, .int .i64 0] 50)).there (w.heap.size + 1) 0 Y.toArray.size) := Lib.hid (blk_there K5.out (by rw [List.size_toArray, hY1]; exact Nat.le_refl 6))
    have L5 : Hid (Blk (((w.alloc (.cells #[.int .i64 0, .int .i64 0, .int .i64 0, .int .i64 0, .int .i64 0, .int .i64 0] 50)).alloc (.cells #[.int .i64 0, .int .i64 0, .int .i64 0, .int .i64 0, .int .i64 0, .int .i64 0] 50)).setCells (w.heap.size + 1) 0 Y) (w.heap.size + 1) 50 Y.toArray) := Lib.hid (blk_over K5.out hY1)
    have L4 : Hid (Blk (((w.alloc (.cells #[.int .i64 0, .int .i64 0, .int .i64 0, .int .i64 0, .int .i64 0, .int .i64 0] 50)).alloc (.cells #[.int .i64 0, .int .i64 0, .int .i64 0, .int .i64 0, .int .i64 0, .int .i64 0] 50)).setCells (w.heap.size + 1) 0 Y) w.heap.size 50 ([.int .i64 0, .int .i64 0, .int .i64 0, .int .i64 0, .int .i64 0, .int .i64 0] : List Value).toArray) := Lib.hid (blk_setFar Y K4.out (by omega))
    have HR5 : Hid ((((w.alloc (.cells #[.int .i64 0, .int .i64 0, .int .i64 0, .int .i64 0, .int .i64 0, .int .i64 0] 50)).alloc (.cells #[.int .i64 0, .int .i64 0, .int .i64 0, .int .i64 0, .int .i64 0, .int .i64 0] 50)).setCells (w.heap.size + 1) 0 Y).rangeAt (w.heap.size + 1) 0 Y) := Lib.hid (blk_whole L5.out)
    have HT4 : Hid ((((w.alloc (.cells #[.int .i64 0, .int .i64 0, .int .i64 0, .int .i64 0, .int .i64 0, .int .i64 0] 50)).alloc (.cells #[.int .i64 0, .int .i64 0, .int .i64 0, .int .i64 0, .int .i64 0, .int .i64 0] 50)).setCells (w.heap.size + 1) 0 Y).there w.heap.size 0 Y.toArray.size) := Lib.hid (blk_there L4.out (by rw [List.size_toArray, hY1]; exact Nat.le_refl 6))
    have M4 : Hid (Blk ((((w.alloc (.cells #[.int .i64 0, .int .i64 0, .int .i64 0, .int .i64 0, .int .i64 0, .int .i64 0] 50)).alloc (.cells #[.int .i64 0, .int .i64 0, .int .i64 0, .int .i64 0, .int .i64 0, .int .i64 0] 50)).setCells (w.heap.size + 1) 0 Y).setCells w.heap.size 0 Y) w.heap.size 50 Y.toArray) := Lib.hid (blk_over L4.out hY1)
    have HB : Hid (Below w.heap.size w ((((w.alloc (.cells #[.int .i64 0, .int .i64 0, .int .i64 0, .int .i64 0, .int .i64 0, .int .i64 0] 50)).alloc (.cells #[.int .i64 0, .int .i64 0, .int .i64 0, .int .i64 0, .int .i64 0, .int .i64 0] 50)).setCells (w.heap.size + 1) 0 Y).setCells w.heap.size 0 Y)) := Lib.hid (below_setCells _ (below_setCells _ (balloc (alloc_below _ _) _) (by omega)) (Nat.le_refl _))
    rw [← hn] at hlt hX hcap ⊢
    have r1 : (row : Int) < (n : Int) := by omega
    clear h hc hn hz hr hY hbk hY1 hY2
    go_enter Tryz.func311, Tryz.ntmps311
    go_wp2_with (first | refine wpList_load_mid rfl 50 (.tmp 12) rfl g (row * 6) rfl Y _ HR.out Tryz.underlying50 rfl HSz.out ?_ | refine wpList_store_mid rfl 50 (.tmp 5) (.tmp 13) rfl (w.heap.size + 1) 0 Y.toArray rfl rfl HT5.out HSz'.out HO.out ?_ | refine wpList_load_mid rfl 50 (.tmp 5) rfl (w.heap.size + 1) 0 rfl Y _ HR5.out Tryz.underlying50 rfl HSz.out ?_ | refine wpList_store_mid rfl 50 (.tmp 4) (.tmp 14) rfl w.heap.size 0 Y.toArray rfl rfl HT4.out HSz'.out HO.out ?_)
    refine fin (fun W => Blk W w.heap.size 50 Y.toArray ∧ Below w.heap.size w W) ⟨M4.out, HB.out⟩ ?_
    rintro W ⟨kr, hb⟩
    have hl := run_loadVar_mid W w.heap.size 0 50 Y _ (blk_whole kr) Tryz.underlying50 rfl HSz.out
    try simp only [Act.put, List.setIfInBounds_toArray, List.set_cons_zero, List.set_cons_succ]
    exact bodyPost_ret (v := .agg Y.toArray) (results_cell Tryz.results311 rfl hl) rfl ⟨rfl, hb⟩
  · obtain ⟨a, cap, rfl, hcap, hmax⟩ := h.form
    rw [getD_no hlt]
    simp only [hz]
    obtain ⟨Y, hY⟩ : ∃ Y : List Value, Y = [.int .i64 0, .int .i64 0, .int .i64 0, .int .i64 0, .int .i64 0, .int .i64 0] := ⟨_, rfl⟩
    have hY1 : Y.length = 6 := by rw [hY]; rfl
    have hY2 : Y.toArray.all (·.oneCell') = true := by rw [hY]; exact one_box (fun _ => 0)
    rw [show (#[.int .i64 0, .int .i64 0, .int .i64 0, .int .i64 0, .int .i64 0, .int .i64 0] : Array Value) = Y.toArray by rw [hY]]
    have HSz : Hid ((Tryz.prog.info? 50).map (·.size) = some Y.length) := Lib.hid (by rw [hY1]; exact info_box)
    have HSz' : Hid ((Tryz.prog.info? 50).map (·.size) = some Y.toArray.size) := Lib.hid (by rw [List.size_toArray, hY1]; exact info_box)
    have HO := Lib.hid hY2
    have HL := Lib.hid hY1
    have K5 : Hid (Blk ((w.alloc (.cells #[.int .i64 0, .int .i64 0, .int .i64 0, .int .i64 0, .int .i64 0, .int .i64 0] 50)).alloc (.cells #[.int .i64 0, .int .i64 0, .int .i64 0, .int .i64 0, .int .i64 0, .int .i64 0] 50)) (w.heap.size + 1) 50 Y.toArray) := Lib.hid (by rw [hY]; exact blkAt (Blk.new (w.alloc (.cells #[.int .i64 0, .int .i64 0, .int .i64 0, .int .i64 0, .int .i64 0, .int .i64 0] 50)) 50 #[.int .i64 0, .int .i64 0, .int .i64 0, .int .i64 0, .int .i64 0, .int .i64 0]) (by simp))
    have K4 : Hid (Blk ((w.alloc (.cells #[.int .i64 0, .int .i64 0, .int .i64 0, .int .i64 0, .int .i64 0, .int .i64 0] 50)).alloc (.cells #[.int .i64 0, .int .i64 0, .int .i64 0, .int .i64 0, .int .i64 0, .int .i64 0] 50)) w.heap.size 50 Y.toArray) := Lib.hid (by rw [hY]; exact (Blk.new w 50 #[.int .i64 0, .int .i64 0, .int .i64 0, .int .i64 0, .int .i64 0, .int .i64 0]).alloc (.cells #[.int .i64 0, .int .i64 0, .int .i64 0, .int .i64 0, .int .i64 0, .int .i64 0] 50))
    have HR5 : Hid (((w.alloc (.cells #[.int .i64 0, .int .i64 0, .int .i64 0, .int .i64 0, .int .i64 0, .int .i64 0] 50)).alloc (.cells #[.int .i64 0, .int .i64 0, .int .i64 0, .int .i64 0, .int .i64 0, .int .i64 0] 50)).rangeAt (w.heap.size + 1) 0 Y) := Lib.hid (blk_whole K5.out)
    have HT4 : Hid (((w.alloc (.cells #[.int .i64 0, .int .i64 0, .int .i64 0, .int .i64 0, .int .i64 0, .int .i64 0] 50)).alloc (.cells #[.int .i64 0, .int .i64 0, .int .i64 0, .int .i64 0, .int .i64 0, .int .i64 0] 50)).there w.heap.size 0 Y.toArray.size) := Lib.hid (blk_there K4.out (by rw [List.size_toArray]; omega))
    have M4 : Hid (Blk (((w.alloc (.cells #[.int .i64 0, .int .i64 0, .int .i64 0, .int .i64 0, .int .i64 0, .int .i64 0] 50)).alloc (.cells #[.int .i64 0, .int .i64 0, .int .i64 0, .int .i64 0, .int .i64 0, .int .i64 0] 50)).setCells w.heap.size 0 Y) w.heap.size 50 Y.toArray) := Lib.hid (blk_over K4.out rfl)
    have HB : Hid (Below w.heap.size w (((w.alloc (.cells #[.int .i64 0, .int .i64 0, .int .i64 0, .int .i64 0, .int .i64 0, .int .i64 0] 50)).alloc (.cells #[.int .i64 0, .int .i64 0, .int .i64 0, .int .i64 0, .int .i64 0, .int .i64 0] 50)).setCells w.heap.size 0 Y)) := Lib.hid (below_setCells _ (balloc (alloc_below _ _) _) (Nat.le_refl _))
    rw [← hn] at hlt hX hcap ⊢
    have r1 : ¬ (row : Int) < (n : Int) := by omega
    clear h hc hn hz hY hY1 hY2
    go_enter Tryz.func311, Tryz.ntmps311
    go_wp2_with (first | refine wpList_load_mid rfl 50 (.tmp 5) rfl (w.heap.size + 1) 0 rfl Y _ HR5.out Tryz.underlying50 rfl HSz.out ?_ | refine wpList_store_mid rfl 50 (.tmp 4) (.tmp 14) rfl w.heap.size 0 Y.toArray rfl rfl HT4.out HSz'.out HO.out ?_)
    refine fin (fun W => Blk W w.heap.size 50 Y.toArray ∧ Below w.heap.size w W) ⟨M4.out, HB.out⟩ ?_
    rintro W ⟨kr, hb⟩
    have hl := run_loadVar_mid W w.heap.size 0 50 Y _ (blk_whole kr) Tryz.underlying50 rfl HSz.out
    try simp only [Act.put, List.setIfInBounds_toArray, List.set_cons_zero, List.set_cons_succ]
    exact bodyPost_ret (v := .agg Y.toArray) (results_cell Tryz.results311 rfl hl) rfl ⟨rfl, hb⟩
set_option maxHeartbeats 1000000 in
set_option maxRecDepth 100000 in
theorem put_box (f : Int × PT → Nat → Int) (v : Value) (X : TR) (row : Nat) (w : World) (h : ColX w 50 6 (fun x => [.int .i64 (f x 0), .int .i64 (f x 1), .int .i64 (f x 2), .int .i64 (f x 3), .int .i64 (f x 4), .int .i64 (f x 5)]) v X) (hX : X.length ≤ 1000) (y : Int × PT) :
    Calls Tryz.prog 319 #[v, .int .i64 row, .agg #[.int .i64 (f y 0), .int .i64 (f y 1), .int .i64 (f y 2), .int .i64 (f y 3), .int .i64 (f y 4), .int .i64 (f y 5)]] w fun e w' => e = .returned (.tuple #[]) ∧ ColX w' 50 6 (fun x => [.int .i64 (f x 0), .int .i64 (f x 1), .int .i64 (f x 2), .int .i64 (f x 3), .int .i64 (f x 4), .int .i64 (f x 5)]) v (X.set row y) ∧ w.grownBy w' v.ownBlock := by
  have hc : ∀ x, ((fun x => [.int .i64 (f x 0), .int .i64 (f x 1), .int .i64 (f x 2), .int .i64 (f x 3), .int .i64 (f x 4), .int .i64 (f x 5)]) x : List Value).length = 6 := fun _ => rfl
  obtain ⟨n, hn⟩ : ∃ n, n = X.length := ⟨_, rfl⟩
  obtain ⟨Y, hY⟩ : ∃ Y : List Value, Y = [.int .i64 (f y 0), .int .i64 (f y 1), .int .i64 (f y 2), .int .i64 (f y 3), .int .i64 (f y 4), .int .i64 (f y 5)] := ⟨_, rfl⟩
  have hY1 : Y.length = 6 := by rw [hY]; rfl
  have hY2 : Y.toArray.all (·.oneCell') = true := by rw [hY]; exact one_box _
  rw [show (#[.int .i64 (f y 0), .int .i64 (f y 1), .int .i64 (f y 2), .int .i64 (f y 3), .int .i64 (f y 4), .int .i64 (f y 5)] : Array Value) = Y.toArray by rw [hY]]
  by_cases hlt : row < X.length
  · obtain ⟨g, cap, cur, rfl, hbk, hcap, hmax, _, _⟩ := h.open_ (by omega)
    have hg := hbk.lt
    have r0 : (0 : Int) ≤ (row : Int) := by omega
    have HSz : Hid ((Tryz.prog.info? 50).map (·.size) = some Y.length) := Lib.hid (by rw [hY1]; exact info_box)
    have HSz' : Hid ((Tryz.prog.info? 50).map (·.size) = some Y.toArray.size) := Lib.hid (by rw [List.size_toArray, hY1]; exact info_box)
    have HO := Lib.hid hY2
    have HL := Lib.hid hY1
    have h1 : ColX (w.alloc (.cells Y.toArray 50)) 50 6 (fun x => [.int .i64 (f x 0), .int .i64 (f x 1), .int .i64 (f x 2), .int .i64 (f x 3), .int .i64 (f x 4), .int .i64 (f x 5)]) (.slice (some ⟨g, 0, none⟩) X.length cap) X := h.kept (World.grownBy_alloc w _ none) (by simp [Value.ownBlock])
    have KB := Lib.hid (Blk.new w 50 Y.toArray)
    have HR : Hid ((w.alloc (.cells Y.toArray 50)).rangeAt w.heap.size 0 Y) := Lib.hid (blk_whole KB.out)
    have HT : Hid ((w.alloc (.cells Y.toArray 50)).there g (row * 6) Y.toArray.size) := Lib.hid (by rw [List.size_toArray, hY1]; exact h1.there hlt)
    have HS := h1.set_ hc hlt y
    simp only [← hY] at HS
    replace HS := Lib.hid HS
    have HG : Hid (w.grownBy ((w.alloc (.cells Y.toArray 50)).setCells g (row * 6) Y) (some g)) := Lib.hid ((World.grownBy_alloc w _ _).trans (grown_sets Y _ g (row * 6)))
    rw [← hn] at hlt hX hcap HS ⊢
    have r1 : (row : Int) < (n : Int) := by omega
    clear h hc hn hY hbk hY1 hY2 h1
    go_enter Tryz.func319, Tryz.ntmps319
    go_wp2_with (first | refine wpList_load_mid rfl 50 (.tmp 5) rfl w.heap.size 0 rfl Y _ HR.out Tryz.underlying50 rfl HSz.out ?_ | refine wpList_store_mid rfl 50 (.tmp 13) (.tmp 12) rfl g (row * 6) Y.toArray rfl rfl HT.out HSz'.out HO.out ?_)
    go_end0
    exact ⟨rfl, HS.out, HG.out⟩
  · obtain ⟨a, cap, rfl, hcap, hmax⟩ := h.form
    have HX : Hid (ColX (w.alloc (.cells Y.toArray 50)) 50 6 (fun x => [.int .i64 (f x 0), .int .i64 (f x 1), .int .i64 (f x 2), .int .i64 (f x 3), .int .i64 (f x 4), .int .i64 (f x 5)]) (.slice a X.length cap) X) := Lib.hid (h.kept (World.grownBy_alloc w _ none) (by cases hv : (Value.slice a X.length cap).ownBlock <;> simp))
    rw [List.set_eq_of_length_le (Nat.le_of_not_lt hlt)]
    rw [← hn] at hlt hX hcap HX ⊢
    have r1 : ¬ (row : Int) < (n : Int) := by omega
    clear h hc hn hY hY1 hY2
    go_enter Tryz.func319, Tryz.ntmps319
    go_wp2
    go_end0
    exact ⟨rfl, HX.out, World.grownBy_alloc _ _ _⟩
set_option maxHeartbeats 1000000 in
set_option maxRecDepth 100000 in
theorem cut_box (f : Int × PT → Nat → Int) (v : Value) (X : TR) (row : Nat) (w : World) (h : ColX w 50 6 (fun x => [.int .i64 (f x 0), .int .i64 (f x 1), .int .i64 (f x 2), .int .i64 (f x 3), .int .i64 (f x 4), .int .i64 (f x 5)]) v X) (hX : X.length ≤ 1000) :
    Calls Tryz.prog 284 #[v, .int .i64 row] w fun e w' => ∃ u, e = .returned u ∧ ColX w' 50 6 (fun x => [.int .i64 (f x 0), .int .i64 (f x 1), .int .i64 (f x 2), .int .i64 (f x 3), .int .i64 (f x 4), .int .i64 (f x 5)]) u (cutL X row) ∧ w.grownBy w' v.ownBlock ∧ u.ownBlock = v.ownBlock := by
  have hc : ∀ x, ((fun x => [.int .i64 (f x 0), .int .i64 (f x 1), .int .i64 (f x 2), .int .i64 (f x 3), .int .i64 (f x 4), .int .i64 (f x 5)]) x : List Value).length = 6 := fun _ => rfl
  obtain ⟨n, hn⟩ : ∃ n, n = X.length := ⟨_, rfl⟩
  by_cases hlt : row < X.length
  · obtain ⟨g, cap, cur, rfl, hbk, hcap, hmax, _, _⟩ := h.open_ (by omega)
    obtain ⟨m, rfl⟩ : ∃ m, n = m + 1 := ⟨n - 1, by omega⟩
    have hr := h.range hc (getD_at (i := m) (by omega))
    have hg := hbk.lt
    obtain ⟨zr, hzr⟩ : ∃ zr, zr = X.getD m d0 := ⟨_, rfl⟩
    rw [← hzr] at hr
    have r0 : (0 : Int) ≤ (row : Int) := by omega
    obtain ⟨Y, hY⟩ : ∃ Y : List Value, Y = [.int .i64 (f zr 0), .int .i64 (f zr 1), .int .i64 (f zr 2), .int .i64 (f zr 3), .int .i64 (f zr 4), .int .i64 (f zr 5)] := ⟨_, rfl⟩
    have hY1 : Y.length = 6 := by rw [hY]; rfl
    have hY2 : Y.toArray.all (·.oneCell') = true := by rw [hY]; exact one_box _
    have HSz : Hid ((Tryz.prog.info? 50).map (·.size) = some Y.length) := Lib.hid (by rw [hY1]; exact info_box)
    have HSz' : Hid ((Tryz.prog.info? 50).map (·.size) = some Y.toArray.size) := Lib.hid (by rw [List.size_toArray, hY1]; exact info_box)
    have HO := Lib.hid hY2
    have HL := Lib.hid hY1
    have HS := h.set_ hc hlt zr
    simp only [← hY] at hr HS
    have HR := Lib.hid hr
    have HT : Hid (w.there g (row * 6) Y.toArray.size) := Lib.hid (by rw [List.size_toArray, hY1]; exact h.there hlt)
    replace HS := Lib.hid (HS.take_ hc (m := m) (by rw [List.length_set]; omega) (by rw [List.length_set]; omega))
    have eL : cutL X row = (X.set row zr).take m := by rw [hzr]; unfold cutL; rw [if_pos hlt, ← hn]; rfl
    rw [eL]
    rw [← hn] at hlt hX hcap ⊢
    have r1 : (row : Int) < ((m + 1 : Nat) : Int) := by omega
    have HG := Lib.hid (grown_sets Y w g (row * 6))
    unfold maxLen at hmax
    clear h hc hn hY hbk hY1 hY2 hr eL hzr
    go_enter Tryz.func284, Tryz.ntmps284
    go_wp2_with (first | refine wpList_load_mid rfl 50 (.tmp 18) rfl g (m * 6) rfl Y _ HR.out Tryz.underlying50 rfl HSz.out ?_ | refine wpList_store_mid rfl 50 (.tmp 20) (.tmp 19) rfl g (row * 6) Y.toArray rfl rfl HT.out HSz'.out HO.out ?_)
    go_ret
    exact ⟨_, rfl, HS.out, HG.out, rfl⟩
  · obtain ⟨a, cap, rfl, hcap, hmax⟩ := h.form
    have HX := Lib.hid h
    have eL : cutL X row = X := by unfold cutL; rw [if_neg hlt]
    rw [eL]
    rw [← hn] at hlt hX hcap HX ⊢
    have r1 : ¬ (row : Int) < (n : Int) := by omega
    clear h hc hn eL
    go_enter Tryz.func284, Tryz.ntmps284
    go_wp2
    go_ret
    exact ⟨_, rfl, HX.out, ⟨rfl, rfl, rfl, Nat.le_refl _, fun _ _ _ => rfl⟩, rfl⟩

end Go.Proofs.YthhfcedhbfandaaGreat
