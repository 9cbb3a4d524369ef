/-
  What the landed table's at, put and cut answer, for each type of a column.
-/
import Derived.Test.YtkondkajpmafkaaGreatMP13
namespace Go.Proofs.YtkondkajpmafkaaGreat
open Go.RowKit

/-- the last row takes a row's place -/
def cutL (X : TR) (i : Nat) : TR := if i < X.length then (X.set i (X.getD (X.length - 1) d0)).take (X.length - 1) else X
theorem getD_at {X : TR} {i : Nat} (h : i < X.length) : X[i]? = some (X.getD i d0) := by simp [List.getD, List.getElem?_eq_getElem h]
theorem getD_no {X : TR} {i : Nat} (h : ¬ i < X.length) : X.getD i d0 = d0 := by simp [List.getD, List.getElem?_eq_none (Nat.le_of_not_lt h)]
theorem blk_over {w : World} {g : Nat} {t : TypeId} {Z Y : List Value} (h : Blk w g t Z.toArray) (e : Y.length = Z.length) : Blk (w.setCells g 0 Y) g t Y.toArray := by
  have := blk_setCells Y (o := 0) h (by omega)
  rwa [splice_all e] at this
theorem sets1 (w : World) (g i : Nat) (u : Value) : w.setCells g (i * 1) [u] = w.setCell ⟨g, i, none⟩ u := by rw [Nat.mul_one]; rfl
theorem range1 {w : World} {g i : Nat} {u : Value} (h : w.rangeAt g (i * 1) [u]) : w.cell? ⟨g, i, none⟩ = some u := by
  have := h 0 u rfl
  rwa [Nat.mul_one, Nat.add_zero] at this
theorem there1 {w : World} {g i : Nat} (h : w.there g (i * 1) 1) : w.frozen? ⟨g, i, none⟩ = false := by
  have := (h 0 (by omega)).2
  rwa [Nat.mul_one, Nat.add_zero] at this

set_option maxHeartbeats 1000000 in
set_option maxRecDepth 100000 in
theorem at_int (f : Int × PT → Int) (v : Value) (X : TR) (row : Nat) (w : World) (h : ColX w 3 1 (fun x => [.int .i64 (f x)]) v X) (hX : X.length ≤ 1000) (hz : f d0 = 0) :
    Calls Tryz.prog 144 #[v, .int .i64 row] w fun e w' => e = .returned (.int .i64 (f (X.getD row d0))) ∧ w = w' := by
  have hc : ∀ x, ((fun x => [.int .i64 (f x)]) x : List Value).length = 1 := fun _ => rfl
  obtain ⟨n, hn⟩ : ∃ n, n = X.length := ⟨_, rfl⟩
  by_cases hlt : row < X.length
  · obtain ⟨g, cap, cur, rfl, _, hcap, hmax, _, _⟩ := h.open_ (by omega)
    have c0 := range1 (h.range hc (getD_at hlt))
    have f0 := there1 (h.there hlt)
    have hg := World.block_lt_of_cell? w _ c0
    have r0 : (0 : Int) ≤ (row : Int) := by omega
    have HX := Lib.hid h
    rw [← hn] at hlt hX hcap ⊢
    have r1 : (row : Int) < (n : Int) := by omega
    obtain ⟨y, hy⟩ : ∃ y, y = f (X.getD row d0) := ⟨_, rfl⟩
    rw [← hy] at c0 ⊢
    clear h hc hn hy hz
    go_enter Tryz.func144, Tryz.ntmps144
    go_wp2
    go_ret
    exact ⟨rfl, rfl⟩
  · obtain ⟨a, cap, rfl, hcap, hmax⟩ := h.form
    rw [getD_no hlt, hz]
    rw [← hn] at hlt hX hcap ⊢
    have r1 : ¬ (row : Int) < (n : Int) := by omega
    clear h hc hn hz
    go_enter Tryz.func144, Tryz.ntmps144
    go_wp2
    go_ret
    exact ⟨rfl, rfl⟩
set_option maxHeartbeats 1000000 in
set_option maxRecDepth 100000 in
theorem put_int (f : Int × PT → Int) (v : Value) (X : TR) (row : Nat) (w : World) (h : ColX w 3 1 (fun x => [.int .i64 (f x)]) v X) (hX : X.length ≤ 1000) (y : Int × PT) :
    Calls Tryz.prog 202 #[v, .int .i64 row, .int .i64 (f y)] w fun e w' => e = .returned (.tuple #[]) ∧ ColX w' 3 1 (fun x => [.int .i64 (f x)]) v (X.set row y) ∧ w.grownBy w' v.ownBlock := by
  have hc : ∀ x, ((fun x => [.int .i64 (f x)]) x : List Value).length = 1 := fun _ => rfl
  obtain ⟨n, hn⟩ : ∃ n, n = X.length := ⟨_, rfl⟩
  by_cases hlt : row < X.length
  · obtain ⟨g, cap, cur, rfl, _, hcap, hmax, _, _⟩ := h.open_ (by omega)
    have c0 := range1 (h.range hc (getD_at hlt))
    have f0 := there1 (h.there hlt)
    have hg := World.block_lt_of_cell? w _ c0
    have r0 : (0 : Int) ≤ (row : Int) := by omega
    have HS := Lib.hid (h.set_ hc hlt y)
    rw [sets1] at HS
    rw [← hn] at hlt hX hcap HS ⊢
    have r1 : (row : Int) < (n : Int) := by omega
    obtain ⟨u, hu⟩ : ∃ u, u = f (X.getD row d0) := ⟨_, rfl⟩
    rw [← hu] at c0
    obtain ⟨q, hq⟩ : ∃ q, q = f y := ⟨_, rfl⟩
    have HG := Lib.hid (grown_sets [.int .i64 (f y)] w g (row * 1))
    rw [sets1] at HG
    rw [← hq] at HG ⊢
    simp only [← hq] at HS
    clear h hc hn hu hq
    go_enter Tryz.func202, Tryz.ntmps202
    go_wp2
    go_end0
    exact ⟨rfl, HS.out, HG.out⟩
  · obtain ⟨a, cap, rfl, hcap, hmax⟩ := h.form
    have HX := Lib.hid h
    rw [List.set_eq_of_length_le (Nat.le_of_not_lt hlt)]
    rw [← hn] at hlt hX hcap HX ⊢
    have r1 : ¬ (row : Int) < (n : Int) := by omega
    obtain ⟨q, hq⟩ : ∃ q, q = f y := ⟨_, rfl⟩
    rw [← hq]
    clear h hc hn hq
    go_enter Tryz.func202, Tryz.ntmps202
    go_wp2
    go_end0
    exact ⟨rfl, HX.out, ⟨rfl, rfl, rfl, Nat.le_refl _, fun _ _ _ => rfl⟩⟩
set_option maxHeartbeats 1000000 in
set_option maxRecDepth 100000 in
theorem cut_int (f : Int × PT → Int) (v : Value) (X : TR) (row : Nat) (w : World) (h : ColX w 3 1 (fun x => [.int .i64 (f x)]) v X) (hX : X.length ≤ 1000) :
    Calls Tryz.prog 186 #[v, .int .i64 row] w fun e w' => ∃ u, e = .returned u ∧ ColX w' 3 1 (fun x => [.int .i64 (f x)]) u (cutL X row) ∧ w.grownBy w' v.ownBlock ∧ u.ownBlock = v.ownBlock := by
  have hc : ∀ x, ((fun x => [.int .i64 (f x)]) x : List Value).length = 1 := fun _ => rfl
  obtain ⟨n, hn⟩ : ∃ n, n = X.length := ⟨_, rfl⟩
  by_cases hlt : row < X.length
  · obtain ⟨g, cap, cur, rfl, _, hcap, hmax, _, _⟩ := h.open_ (by omega)
    obtain ⟨m, rfl⟩ : ∃ m, n = m + 1 := ⟨n - 1, by omega⟩
    have c0 := range1 (h.range hc (getD_at hlt))
    have c1 := range1 (h.range hc (getD_at (i := m) (by omega)))
    have f0 := there1 (h.there hlt)
    have hg := World.block_lt_of_cell? w _ c0
    have r0 : (0 : Int) ≤ (row : Int) := by omega
    obtain ⟨zr, hzr⟩ : ∃ zr, zr = X.getD m d0 := ⟨_, rfl⟩
    have HS := h.set_ hc hlt zr
    rw [sets1] at HS
    replace HS := Lib.hid (HS.take_ hc (m := m) (by rw [List.length_set]; omega) (by rw [List.length_set]; omega))
    have eL : cutL X row = (X.set row zr).take m := by rw [hzr]; unfold cutL; rw [if_pos hlt, ← hn]; rfl
    rw [eL]
    rw [← hn] at hlt hX hcap ⊢
    have r1 : (row : Int) < ((m + 1 : Nat) : Int) := by omega
    have HG := Lib.hid (grown_sets [.int .i64 (f zr)] w g (row * 1))
    rw [sets1] at HG
    obtain ⟨y, hy⟩ : ∃ y, y = f (X.getD row d0) := ⟨_, rfl⟩
    rw [← hy] at c0
    rw [← hzr] at c1
    obtain ⟨z, hz⟩ : ∃ z, z = f zr := ⟨_, rfl⟩
    rw [← hz] at c1 HG
    simp only [← hz] at HS
    unfold maxLen at hmax
    clear h hc hn hy eL hz hzr
    go_enter Tryz.func186, Tryz.ntmps186
    go_wp2
    go_ret
    exact ⟨_, rfl, HS.out, HG.out, rfl⟩
  · obtain ⟨a, cap, rfl, hcap, hmax⟩ := h.form
    have HX := Lib.hid h
    have eL : cutL X row = X := by unfold cutL; rw [if_neg hlt]
    rw [eL]
    rw [← hn] at hlt hX hcap HX ⊢
    have r1 : ¬ (row : Int) < (n : Int) := by omega
    clear h hc hn eL
    go_enter Tryz.func186, Tryz.ntmps186
    go_wp2
    go_ret
    exact ⟨_, rfl, HX.out, ⟨rfl, rfl, rfl, Nat.le_refl _, fun _ _ _ => rfl⟩, rfl⟩

set_option maxHeartbeats 1000000 in
set_option maxRecDepth 100000 in
theorem at_bool (f : Int × PT → Bool) (v : Value) (X : TR) (row : Nat) (w : World) (h : ColX w 4 1 (fun x => [.bool (f x)]) v X) (hX : X.length ≤ 1000) (hz : f d0 = false) :
    Calls Tryz.prog 146 #[v, .int .i64 row] w fun e w' => e = .returned (.bool (f (X.getD row d0))) ∧ w = w' := by
  have hc : ∀ x, ((fun x => [.bool (f x)]) x : List Value).length = 1 := fun _ => rfl
  obtain ⟨n, hn⟩ : ∃ n, n = X.length := ⟨_, rfl⟩
  by_cases hlt : row < X.length
  · obtain ⟨g, cap, cur, rfl, _, hcap, hmax, _, _⟩ := h.open_ (by omega)
    have c0 := range1 (h.range hc (getD_at hlt))
    have f0 := there1 (h.there hlt)
    have hg := World.block_lt_of_cell? w _ c0
    have r0 : (0 : Int) ≤ (row : Int) := by omega
    have HX := Lib.hid h
    rw [← hn] at hlt hX hcap ⊢
    have r1 : (row : Int) < (n : Int) := by omega
    obtain ⟨y, hy⟩ : ∃ y, y = f (X.getD row d0) := ⟨_, rfl⟩
    rw [← hy] at c0 ⊢
    clear h hc hn hy hz
    go_enter Tryz.func146, Tryz.ntmps146
    go_wp2
    go_ret
    exact ⟨rfl, rfl⟩
  · obtain ⟨a, cap, rfl, hcap, hmax⟩ := h.form
    rw [getD_no hlt, hz]
    rw [← hn] at hlt hX hcap ⊢
    have r1 : ¬ (row : Int) < (n : Int) := by omega
    clear h hc hn hz
    go_enter Tryz.func146, Tryz.ntmps146
    go_wp2
    go_ret
    exact ⟨rfl, rfl⟩
set_option maxHeartbeats 1000000 in
set_option maxRecDepth 100000 in
theorem put_bool (f : Int × PT → Bool) (v : Value) (X : TR) (row : Nat) (w : World) (h : ColX w 4 1 (fun x => [.bool (f x)]) v X) (hX : X.length ≤ 1000) (y : Int × PT) :
    Calls Tryz.prog 204 #[v, .int .i64 row, .bool (f y)] w fun e w' => e = .returned (.tuple #[]) ∧ ColX w' 4 1 (fun x => [.bool (f x)]) v (X.set row y) ∧ w.grownBy w' v.ownBlock := by
  have hc : ∀ x, ((fun x => [.bool (f x)]) x : List Value).length = 1 := fun _ => rfl
  obtain ⟨n, hn⟩ : ∃ n, n = X.length := ⟨_, rfl⟩
  by_cases hlt : row < X.length
  · obtain ⟨g, cap, cur, rfl, _, hcap, hmax, _, _⟩ := h.open_ (by omega)
    have c0 := range1 (h.range hc (getD_at hlt))
    have f0 := there1 (h.there hlt)
    have hg := World.block_lt_of_cell? w _ c0
    have r0 : (0 : Int) ≤ (row : Int) := by omega
    have HS := Lib.hid (h.set_ hc hlt y)
    rw [sets1] at HS
    rw [← hn] at hlt hX hcap HS ⊢
    have r1 : (row : Int) < (n : Int) := by omega
    obtain ⟨u, hu⟩ : ∃ u, u = f (X.getD row d0) := ⟨_, rfl⟩
    rw [← hu] at c0
    obtain ⟨q, hq⟩ : ∃ q, q = f y := ⟨_, rfl⟩
    have HG := Lib.hid (grown_sets [.bool (f y)] w g (row * 1))
    rw [sets1] at HG
    rw [← hq] at HG ⊢
    simp only [← hq] at HS
    clear h hc hn hu hq
    go_enter Tryz.func204, Tryz.ntmps204
    go_wp2
    go_end0
    exact ⟨rfl, HS.out, HG.out⟩
  · obtain ⟨a, cap, rfl, hcap, hmax⟩ := h.form
    have HX := Lib.hid h
    rw [List.set_eq_of_length_le (Nat.le_of_not_lt hlt)]
    rw [← hn] at hlt hX hcap HX ⊢
    have r1 : ¬ (row : Int) < (n : Int) := by omega
    obtain ⟨q, hq⟩ : ∃ q, q = f y := ⟨_, rfl⟩
    rw [← hq]
    clear h hc hn hq
    go_enter Tryz.func204, Tryz.ntmps204
    go_wp2
    go_end0
    exact ⟨rfl, HX.out, ⟨rfl, rfl, rfl, Nat.le_refl _, fun _ _ _ => rfl⟩⟩
set_option maxHeartbeats 1000000 in
set_option maxRecDepth 100000 in
theorem cut_bool (f : Int × PT → Bool) (v : Value) (X : TR) (row : Nat) (w : World) (h : ColX w 4 1 (fun x => [.bool (f x)]) v X) (hX : X.length ≤ 1000) :
    Calls Tryz.prog 188 #[v, .int .i64 row] w fun e w' => ∃ u, e = .returned u ∧ ColX w' 4 1 (fun x => [.bool (f x)]) u (cutL X row) ∧ w.grownBy w' v.ownBlock ∧ u.ownBlock = v.ownBlock := by
  have hc : ∀ x, ((fun x => [.bool (f x)]) x : List Value).length = 1 := fun _ => rfl
  obtain ⟨n, hn⟩ : ∃ n, n = X.length := ⟨_, rfl⟩
  by_cases hlt : row < X.length
  · obtain ⟨g, cap, cur, rfl, _, hcap, hmax, _, _⟩ := h.open_ (by omega)
    obtain ⟨m, rfl⟩ : ∃ m, n = m + 1 := ⟨n - 1, by omega⟩
    have c0 := range1 (h.range hc (getD_at hlt))
    have c1 := range1 (h.range hc (getD_at (i := m) (by omega)))
    have f0 := there1 (h.there hlt)
    have hg := World.block_lt_of_cell? w _ c0
    have r0 : (0 : Int) ≤ (row : Int) := by omega
    obtain ⟨zr, hzr⟩ : ∃ zr, zr = X.getD m d0 := ⟨_, rfl⟩
    have HS := h.set_ hc hlt zr
    rw [sets1] at HS
    replace HS := Lib.hid (HS.take_ hc (m := m) (by rw [List.length_set]; omega) (by rw [List.length_set]; omega))
    have eL : cutL X row = (X.set row zr).take m := by rw [hzr]; unfold cutL; rw [if_pos hlt, ← hn]; rfl
    rw [eL]
    rw [← hn] at hlt hX hcap ⊢
    have r1 : (row : Int) < ((m + 1 : Nat) : Int) := by omega
    have HG := Lib.hid (grown_sets [.bool (f zr)] w g (row * 1))
    rw [sets1] at HG
    obtain ⟨y, hy⟩ : ∃ y, y = f (X.getD row d0) := ⟨_, rfl⟩
    rw [← hy] at c0
    rw [← hzr] at c1
    obtain ⟨z, hz⟩ : ∃ z, z = f zr := ⟨_, rfl⟩
    rw [← hz] at c1 HG
    simp only [← hz] at HS
    unfold maxLen at hmax
    clear h hc hn hy eL hz hzr
    go_enter Tryz.func188, Tryz.ntmps188
    go_wp2
    go_ret
    exact ⟨_, rfl, HS.out, HG.out, rfl⟩
  · obtain ⟨a, cap, rfl, hcap, hmax⟩ := h.form
    have HX := Lib.hid h
    have eL : cutL X row = X := by unfold cutL; rw [if_neg hlt]
    rw [eL]
    rw [← hn] at hlt hX hcap HX ⊢
    have r1 : ¬ (row : Int) < (n : Int) := by omega
    clear h hc hn eL
    go_enter Tryz.func188, Tryz.ntmps188
    go_wp2
    go_ret
    exact ⟨_, rfl, HX.out, ⟨rfl, rfl, rfl, Nat.le_refl _, fun _ _ _ => rfl⟩, rfl⟩

set_option maxHeartbeats 1000000 in
set_option maxRecDepth 100000 in
theorem cut_id (f : Int × PT → Int) (v : Value) (X : TR) (row : Nat) (w : World) (h : ColX w 31 1 (fun x => [.int .i64 (f x)]) v X) (hX : X.length ≤ 1000) :
    Calls Tryz.prog 184 #[v, .int .i64 row] w fun e w' => ∃ u, e = .returned u ∧ ColX w' 31 1 (fun x => [.int .i64 (f x)]) u (cutL X row) ∧ w.grownBy w' v.ownBlock ∧ u.ownBlock = v.ownBlock := by
  have hc : ∀ x, ((fun x => [.int .i64 (f x)]) x : List Value).length = 1 := fun _ => rfl
  obtain ⟨n, hn⟩ : ∃ n, n = X.length := ⟨_, rfl⟩
  by_cases hlt : row < X.length
  · obtain ⟨g, cap, cur, rfl, _, hcap, hmax, _, _⟩ := h.open_ (by omega)
    obtain ⟨m, rfl⟩ : ∃ m, n = m + 1 := ⟨n - 1, by omega⟩
    have c0 := range1 (h.range hc (getD_at hlt))
    have c1 := range1 (h.range hc (getD_at (i := m) (by omega)))
    have f0 := there1 (h.there hlt)
    have hg := World.block_lt_of_cell? w _ c0
    have r0 : (0 : Int) ≤ (row : Int) := by omega
    obtain ⟨zr, hzr⟩ : ∃ zr, zr = X.getD m d0 := ⟨_, rfl⟩
    have HS := h.set_ hc hlt zr
    rw [sets1] at HS
    replace HS := Lib.hid (HS.take_ hc (m := m) (by rw [List.length_set]; omega) (by rw [List.length_set]; omega))
    have eL : cutL X row = (X.set row zr).take m := by rw [hzr]; unfold cutL; rw [if_pos hlt, ← hn]; rfl
    rw [eL]
    rw [← hn] at hlt hX hcap ⊢
    have r1 : (row : Int) < ((m + 1 : Nat) : Int) := by omega
    have HG := Lib.hid (grown_sets [.int .i64 (f zr)] w g (row * 1))
    rw [sets1] at HG
    obtain ⟨y, hy⟩ : ∃ y, y = f (X.getD row d0) := ⟨_, rfl⟩
    rw [← hy] at c0
    rw [← hzr] at c1
    obtain ⟨z, hz⟩ : ∃ z, z = f zr := ⟨_, rfl⟩
    rw [← hz] at c1 HG
    simp only [← hz] at HS
    unfold maxLen at hmax
    clear h hc hn hy eL hz hzr
    go_enter Tryz.func184, Tryz.ntmps184
    go_wp2
    go_ret
    exact ⟨_, rfl, HS.out, HG.out, rfl⟩
  · obtain ⟨a, cap, rfl, hcap, hmax⟩ := h.form
    have HX := Lib.hid h
    have eL : cutL X row = X := by unfold cutL; rw [if_neg hlt]
    rw [eL]
    rw [← hn] at hlt hX hcap HX ⊢
    have r1 : ¬ (row : Int) < (n : Int) := by omega
    clear h hc hn eL
    go_enter Tryz.func184, Tryz.ntmps184
    go_wp2
    go_ret
    exact ⟨_, rfl, HX.out, ⟨rfl, rfl, rfl, Nat.le_refl _, fun _ _ _ => rfl⟩, rfl⟩

end Go.Proofs.YtkondkajpmafkaaGreat
