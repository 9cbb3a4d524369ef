/-
  9 texts in one file, each with its own heading.
-/
import Derived.Test.YthhfcedhbfandaaGreatMS06
import Derived.Test.YthhfcedhbfandaaGreatMS03
import Derived.Test.YthhfcedhbfandaaGreatMS01
import Derived.Deep.OwnRows
import Derived.Deep.QuietTactic
import Derived.Maps.AppendAt
/-
  Arguments of layer 6, opened: two parts, a slice of kinds.
-/
namespace Go.Proofs.YthhfcedhbfandaaGreat
open Go.ChangeShapes Go.WideShapes Go.ChangeAt Go.RowKit Go.Deep

section
variable {H : Type} {enc : TypeId × Value → H} {w : World} {base : Nat} {spare : Nat → Bool} {held : Bool}

theorem parts_cells {cs : List Value} {P : PT} (hl : cs.length = 24) (h0 : cs[0]? = some (.int .i64 P.1)) (hM : ∀ i, i < 12 → cs[1 + i]? = some (.int .i64 (P.2.1 i))) (h13 : cs[13]? = some (.int .i64 P.2.2.1)) (hB : ∀ i, i < 6 → cs[14 + i]? = some (.int .i64 (P.2.2.2.1 i)))
    (h20 : cs[20]? = some (.int .i64 P.2.2.2.2.1)) (h21 : cs[21]? = some (.int .i64 P.2.2.2.2.2.1)) (h22 : cs[22]? = some (.bool P.2.2.2.2.2.2.1)) (h23 : cs[23]? = some (.int .i64 P.2.2.2.2.2.2.2)) : cs = pl P := by
  match cs, hl with
  | [c0, c1, c2, c3, c4, c5, c6, c7, c8, c9, c10, c11, c12, c13, c14, c15, c16, c17, c18, c19, c20, c21, c22, c23], _ =>
    have m0 := hM 0 (by omega)
    have m1 := hM 1 (by omega)
    have m2 := hM 2 (by omega)
    have m3 := hM 3 (by omega)
    have m4 := hM 4 (by omega)
    have m5 := hM 5 (by omega)
    have m6 := hM 6 (by omega)
    have m7 := hM 7 (by omega)
    have m8 := hM 8 (by omega)
    have m9 := hM 9 (by omega)
    have m10 := hM 10 (by omega)
    have m11 := hM 11 (by omega)
    have b0 := hB 0 (by omega)
    have b1 := hB 1 (by omega)
    have b2 := hB 2 (by omega)
    have b3 := hB 3 (by omega)
    have b4 := hB 4 (by omega)
    have b5 := hB 5 (by omega)
    simp at h0 m0 m1 m2 m3 m4 m5 m6 m7 m8 m9 m10 m11 h13 b0 b1 b2 b3 b4 b5 h20 h21 h22 h23
    rw [h0, m0, m1, m2, m3, m4, m5, m6, m7, m8, m9, m10, m11, h13, b0, b1, b2, b3, b4, b5, h20, h21, h22, h23]
    rfl
theorem piece1 {cs : List Value} {o : Nat} {v : Value} (h : (cs.drop o).take 1 = [v]) : cs[o]? = some v := take1_at h
theorem parts_open {fuel : Nat} {cs : List Value} {x : DataW H × List MemPlace} (hl : cs.length = 24) (h : DataW.trod enc Tryz.prog w base spare held fuel 52 cs = some x) : ∃ P : PT, cs = pl P := by
  obtain ⟨xs, n, _, _, _, hxl, hx⟩ := DataW.trod_struct Tryz.underlying52 h
  have hxl2 : xs.length = 8 := hxl
  have hc0 : Tryz.prog.cellsOf 43 = 1 := by kernel_rfl
  have f0 : DataW.trod enc Tryz.prog w base spare held n 43 ((cs.drop 0).take 1) = some (xs[0]'(by omega)) := by
    have := (hx 0 _ rfl).trans (List.getElem?_eq_getElem (show 0 < xs.length by omega))
    exact (congrArg (fun c => DataW.trod enc Tryz.prog w base spare held n 43 ((cs.drop 0).take c)) hc0.symm).trans this
  have hc1 : Tryz.prog.cellsOf 46 = 12 := by kernel_rfl
  have f1 : DataW.trod enc Tryz.prog w base spare held n 46 ((cs.drop 1).take 12) = some (xs[1]'(by omega)) := by
    have := (hx 1 _ rfl).trans (List.getElem?_eq_getElem (show 1 < xs.length by omega))
    exact (congrArg (fun c => DataW.trod enc Tryz.prog w base spare held n 46 ((cs.drop 1).take c)) hc1.symm).trans this
  have hc2 : Tryz.prog.cellsOf 3 = 1 := by kernel_rfl
  have f2 : DataW.trod enc Tryz.prog w base spare held n 3 ((cs.drop 13).take 1) = some (xs[2]'(by omega)) := by
    have := (hx 2 _ rfl).trans (List.getElem?_eq_getElem (show 2 < xs.length by omega))
    exact (congrArg (fun c => DataW.trod enc Tryz.prog w base spare held n 3 ((cs.drop 13).take c)) hc2.symm).trans this
  have hc3 : Tryz.prog.cellsOf 50 = 6 := by kernel_rfl
  have f3 : DataW.trod enc Tryz.prog w base spare held n 50 ((cs.drop 14).take 6) = some (xs[3]'(by omega)) := by
    have := (hx 3 _ rfl).trans (List.getElem?_eq_getElem (show 3 < xs.length by omega))
    exact (congrArg (fun c => DataW.trod enc Tryz.prog w base spare held n 50 ((cs.drop 14).take c)) hc3.symm).trans this
  have hc4 : Tryz.prog.cellsOf 3 = 1 := by kernel_rfl
  have f4 : DataW.trod enc Tryz.prog w base spare held n 3 ((cs.drop 20).take 1) = some (xs[4]'(by omega)) := by
    have := (hx 4 _ rfl).trans (List.getElem?_eq_getElem (show 4 < xs.length by omega))
    exact (congrArg (fun c => DataW.trod enc Tryz.prog w base spare held n 3 ((cs.drop 20).take c)) hc4.symm).trans this
  have hc5 : Tryz.prog.cellsOf 3 = 1 := by kernel_rfl
  have f5 : DataW.trod enc Tryz.prog w base spare held n 3 ((cs.drop 21).take 1) = some (xs[5]'(by omega)) := by
    have := (hx 5 _ rfl).trans (List.getElem?_eq_getElem (show 5 < xs.length by omega))
    exact (congrArg (fun c => DataW.trod enc Tryz.prog w base spare held n 3 ((cs.drop 21).take c)) hc5.symm).trans this
  have hc6 : Tryz.prog.cellsOf 4 = 1 := by kernel_rfl
  have f6 : DataW.trod enc Tryz.prog w base spare held n 4 ((cs.drop 22).take 1) = some (xs[6]'(by omega)) := by
    have := (hx 6 _ rfl).trans (List.getElem?_eq_getElem (show 6 < xs.length by omega))
    exact (congrArg (fun c => DataW.trod enc Tryz.prog w base spare held n 4 ((cs.drop 22).take c)) hc6.symm).trans this
  have hc7 : Tryz.prog.cellsOf 3 = 1 := by kernel_rfl
  have f7 : DataW.trod enc Tryz.prog w base spare held n 3 ((cs.drop 23).take 1) = some (xs[7]'(by omega)) := by
    have := (hx 7 _ rfl).trans (List.getElem?_eq_getElem (show 7 < xs.length by omega))
    exact (congrArg (fun c => DataW.trod enc Tryz.prog w base spare held n 3 ((cs.drop 23).take c)) hc7.symm).trans this
  obtain ⟨v0, e0, _, _⟩ := DataW.trod_int Tryz.underlying43 f0
  obtain ⟨M, hM⟩ := open_nums Tryz.underlying46 Tryz.underlying44 (by kernel_rfl) f1
  obtain ⟨v2, e2, _, _⟩ := DataW.trod_int Tryz.underlying3 f2
  obtain ⟨B, hB⟩ := box_nums f3
  obtain ⟨v4, e4, _, _⟩ := DataW.trod_int Tryz.underlying3 f4
  obtain ⟨v5, e5, _, _⟩ := DataW.trod_int Tryz.underlying3 f5
  obtain ⟨v6, e6, _⟩ := DataW.trod_bool Tryz.underlying4 f6
  obtain ⟨v7, e7, _, _⟩ := DataW.trod_int Tryz.underlying3 f7
  exact ⟨(v0, M, v2, B, v4, v5, v6, v7), parts_cells hl (piece1 e0) (fun i hi => nums_piece (M := M) (fun i hi => (hM i hi).1) hi) (piece1 e2) (fun i hi => nums_piece hB hi) (piece1 e4) (piece1 e5) (piece1 e6) (piece1 e7)⟩
end
end Go.Proofs.YthhfcedhbfandaaGreat
namespace Go.Proofs.YthhfcedhbfandaaGreat
open Go.RowKit

abbrev TR := List (Int × PT)
def d0 : Int × PT := (0, zT)
def hasId (R : TR) (id : Int) : Bool := R.any fun r => r.1 == id
def findI (R : TR) (id : Int) : Int := match R.findIdx? (fun r => r.1 == id) with | some i => (i : Int) | none => -1
def fitsB (s : Int) (P : PT) : Bool := rightT P && (P.1 == s)
def inR (R : TR) (row : Int) : Bool := decide (0 ≤ row) && decide (row < (R.length : Int))
def tadE (s : Int) (R : TR) (id : Int) (P : PT) : Int := if fitsB s P then (if hasId R id then 5 else 0) else 1
def tadN (s : Int) (R : TR) (id : Int) (P : PT) : Int := if tadE s R id P = 0 then (R.length : Int) else 0
def tadR (s : Int) (R : TR) (id : Int) (P : PT) : TR := if tadE s R id P = 0 then R ++ [(id, P)] else R
def tpuE (s : Int) (R : TR) (row : Int) (P : PT) : Int := if fitsB s P then (if inR R row then 0 else 4) else 1
def tpuR (s : Int) (R : TR) (row : Int) (P : PT) : TR := if tpuE s R row P = 0 then R.set row.toNat ((R.getD row.toNat d0).1, P) else R
def tcuE (R : TR) (row : Int) : Int := if inR R row then 0 else 4
def tcuV (R : TR) (row : Int) : Int := if inR R row then (if row + 1 < (R.length : Int) then (R.getD (R.length - 1) d0).1 else -1) else -1
def tcuR (R : TR) (row : Int) : TR := if inR R row then (R.set row.toNat (R.getD (R.length - 1) d0)).take (R.length - 1) else R
def Fr (w w' : World) (L : Nat → Prop) : Prop := w'.os = w.os ∧ w'.tape = w.tape ∧ w'.output = w.output ∧ w.heap.size ≤ w'.heap.size ∧ ∀ b, b < w.heap.size → ¬ L b → w'.heap[b]? = w.heap[b]?

def TC (TB : World → Nat → (Nat → Prop) → Int → TR → Prop) : Prop :=
  (∀ w w' g L s R, TB w g L s R → (∀ b, L b → w'.heap[b]? = w.heap[b]?) → TB w' g L s R) ∧
  (∀ w g L s R, TB w g L s R → ∀ b, L b → b < w.heap.size) ∧
  (∀ (w : World) (s : Int), 0 ≤ s ∧ s ≤ 31 → Calls Tryz.prog 239 #[.int .i64 s] w fun e w' => ∃ g L, e = .returned (.tuple #[.pointer (some ⟨g, 0, none⟩), .int .i64 0]) ∧ TB w' g L s [] ∧ (∀ b, L b → w.heap.size ≤ b) ∧ Below w.heap.size w w') ∧
  (∀ (w : World) g L s R (id : Int) (P : PT), R.length ≤ 1000 → TB w g L s R → Calls Tryz.prog 180 #[.pointer (some ⟨g, 0, none⟩), .int .i64 id, .agg (pl P).toArray] w fun e w' => ∃ L', e = .returned (.tuple #[.int .i64 (tadN s R id P), .int .i64 (tadE s R id P)]) ∧ TB w' g L' s (tadR s R id P) ∧ Fr w w' L ∧ ∀ b, L' b → L b ∨ w.heap.size ≤ b) ∧
  (∀ (w : World) g L s R (row : Int) (P : PT), R.length ≤ 1000 → TB w g L s R → Calls Tryz.prog 273 #[.pointer (some ⟨g, 0, none⟩), .int .i64 row, .agg (pl P).toArray] w fun e w' => ∃ L', e = .returned (.int .i64 (tpuE s R row P)) ∧ TB w' g L' s (tpuR s R row P) ∧ Fr w w' L ∧ ∀ b, L' b → L b ∨ w.heap.size ≤ b) ∧
  (∀ (w : World) g L s R (row : Int), R.length ≤ 1000 → TB w g L s R → Calls Tryz.prog 186 #[.pointer (some ⟨g, 0, none⟩), .int .i64 row] w fun e w' => ∃ L', e = .returned (.tuple #[.int .i64 (tcuV R row), .int .i64 (tcuE R row)]) ∧ TB w' g L' s (tcuR R row) ∧ Fr w w' L ∧ ∀ b, L' b → L b ∨ w.heap.size ≤ b) ∧
  (∀ (w : World) g L s R (row : Int), R.length ≤ 1000 → TB w g L s R → Calls Tryz.prog 262 #[.pointer (some ⟨g, 0, none⟩), .int .i64 row] w fun e w' => ∃ (x : Int) (P : PT), e = .returned (.tuple #[.int .i64 x, .agg (pl P).toArray, .bool (inR R row)]) ∧ (inR R row = true → (x, P) = R.getD row.toNat d0) ∧ Below w.heap.size w w') ∧
  (∀ (w : World) g L s R (id : Int), R.length ≤ 1000 → TB w g L s R → Calls Tryz.prog 241 #[.pointer (some ⟨g, 0, none⟩), .int .i64 id] w fun e w' => e = .returned (.int .i64 (findI R id)) ∧ Below w.heap.size w w') ∧
  (∀ (w : World) g L s R, R.length ≤ 1000 → TB w g L s R → Calls Tryz.prog 243 #[.pointer (some ⟨g, 0, none⟩)] w fun e w' => e = .returned (.int .i64 (R.length : Int)) ∧ Below w.heap.size w w')

theorem Fr.below {B : Nat} {w0 w w' : World} {L : Nat → Prop} (h : Fr w w' L) (hb : Below B w0 w) (hL : ∀ b, L b → B ≤ b) (hs : B ≤ w.heap.size) : Below B w0 w' :=
  ⟨h.1.trans hb.os, h.2.1.trans hb.tape, h.2.2.1.trans hb.output, Nat.le_trans hb.size h.2.2.2.1, fun k hk => (h.2.2.2.2 k (by omega) (fun c => by have := hL k c; omega)).trans (hb.block k hk)⟩

theorem inR_spec {R : TR} {row : Int} (h : inR R row = true) : ∃ (i : Nat) (hi : i < R.length), row = (i : Int) ∧ R.getD row.toNat d0 = R[i] := by
  unfold inR at h
  rw [Bool.and_eq_true, decide_eq_true_eq, decide_eq_true_eq] at h
  refine ⟨row.toNat, by omega, by omega, ?_⟩
  simp [List.getD, List.getElem?_eq_getElem (show row.toNat < R.length by omega)]
theorem nodup_at {R : TR} (h : (R.map Prod.fst).Nodup) {i j : Nat} (hi : i < R.length) (hj : j < R.length) (e : R[i].1 = R[j].1) : i = j := by
  have hp := List.pairwise_iff_getElem.1 h
  rcases Nat.lt_trichotomy i j with c | c | c
  · exact absurd (by rw [List.getElem_map, List.getElem_map]; exact e) (hp i j (by simpa using hi) (by simpa using hj) c)
  · exact c
  · exact absurd (by rw [List.getElem_map, List.getElem_map]; exact e.symm) (hp j i (by simpa using hj) (by simpa using hi) c)
theorem set_map {R : TR} (h : (R.map Prod.fst).Nodup) {i : Nat} (hi : i < R.length) (P : PT) : R.map (fun x => if x.1 == R[i].1 then (x.1, P) else x) = R.set i (R[i].1, P) := by
  refine List.ext_getElem (by simp) (fun j h1 h2 => ?_)
  have hj : j < R.length := by simpa using h1
  rw [List.getElem_map, List.getElem_set]
  by_cases c : i = j
  · subst c; simp
  · rw [if_neg c, if_neg (by intro e; exact c (nodup_at h hi hj (by simpa using (beq_iff_eq.1 e).symm)))]
theorem filter_erase : ∀ (R : TR) (i : Nat) (hi : i < R.length), (R.map Prod.fst).Nodup → (R.filter fun x => x.1 != (R[i]'hi).1) = R.eraseIdx i
  | [], i, hi, _ => by cases hi
  | a :: r, 0, _, h => by
    rw [List.map_cons, List.nodup_cons] at h
    have : (r.filter fun x => x.1 != a.1) = r := List.filter_eq_self.2 (fun x hx => by
      simp only [bne_iff_ne, ne_eq]
      intro e
      exact h.1 (List.mem_map.2 ⟨x, hx, e⟩))
    simp [this]
  | a :: r, i + 1, hi, h => by
    rw [List.map_cons, List.nodup_cons] at h
    have hi' : i < r.length := by simpa using hi
    have ih := filter_erase r i hi' h.2
    have hne : (a.1 != (r[i]'hi').1) = true := by
      simp only [bne_iff_ne, ne_eq]
      intro e
      exact h.1 (List.mem_map.2 ⟨_, List.getElem_mem hi', e.symm⟩)
    show List.filter (fun x => x.1 != (r[i]'hi').1) (a :: r) = a :: r.eraseIdx i
    rw [List.filter_cons, if_pos hne, ih]
theorem set_erase : ∀ (l : TR) (i : Nat) (a : Int × PT), i < l.length → (l.set i a).Perm (a :: l.eraseIdx i)
  | [], _, _, h => by cases h
  | x :: r, 0, a, _ => List.Perm.refl _
  | x :: r, i + 1, a, h => ((set_erase r i a (by simpa using h)).cons x).trans (List.Perm.swap a x _)
theorem cut_perm (D : TR) (z : Int × PT) (i : Nat) (hi : i < D.length + 1) : ((D ++ [z]).eraseIdx i).Perm (((D ++ [z]).set i z).take D.length) := by
  by_cases c : i < D.length
  · rw [List.eraseIdx_append_of_lt_length c, List.set_append_left _ _ c, List.take_append_of_le_length (by rw [List.length_set]; exact Nat.le_refl _), List.take_of_length_le (by rw [List.length_set]; exact Nat.le_refl _)]
    exact (List.perm_append_singleton _ _).trans (set_erase D i z c).symm
  · have : i = D.length := by omega
    subst this
    rw [List.eraseIdx_append_of_length_le (Nat.le_refl _), List.set_append_right _ _ (Nat.le_refl _), List.take_append_of_le_length (Nat.le_refl _), List.take_of_length_le (Nat.le_refl _)]
    simp
theorem cut_filter {R : TR} (h : (R.map Prod.fst).Nodup) {i : Nat} (hi : i < R.length) : (R.filter fun x => x.1 != R[i].1).Perm ((R.set i (R.getD (R.length - 1) d0)).take (R.length - 1)) := by
  rw [filter_erase R i hi h]
  clear h
  have hn : R ≠ [] := by intro e; rw [e] at hi; cases hi
  obtain ⟨D, z, rfl⟩ : ∃ D z, R = D ++ [z] := ⟨R.dropLast, R.getLast hn, (List.dropLast_concat_getLast hn).symm⟩
  have e1 : (D ++ [z]).length - 1 = D.length := by simp
  have e2 : (D ++ [z]).getD D.length d0 = z := by simp [List.getD]
  rw [e1, e2]
  exact cut_perm D z i (by simpa using hi)

theorem find_mem {R : TR} (h : (R.map Prod.fst).Nodup) {x : Int × PT} (hx : x ∈ R) : inR R (findI R x.1) = true ∧ R.getD (findI R x.1).toNat d0 = x := by
  obtain ⟨i, hi, rfl⟩ := List.getElem_of_mem hx
  have e : R.findIdx? (fun r => r.1 == R[i].1) = some i := by
    rw [List.findIdx?_eq_some_iff_getElem]
    refine ⟨hi, by simp, fun j hj => ?_⟩
    intro c
    have := nodup_at h (i := j) (j := i) (by omega) hi (beq_iff_eq.1 c)
    omega
  have e2 : findI R R[i].1 = (i : Int) := by unfold findI; rw [e]
  rw [e2]
  refine ⟨by unfold inR; simp [hi], ?_⟩
  simp [List.getD, List.getElem?_eq_getElem hi]

def rcells (x : Int × PT) : List Value := .int .i64 x.1 :: pl x.2
theorem range_same {w w' : World} {b o : Nat} {cs : List Value} (h : w.rangeAt b o cs) (e : w'.heap[b]? = w.heap[b]?) : w'.rangeAt b o cs := fun j v hv => by
  have := h j v hv
  simp only [World.cell?] at this ⊢
  rw [e]
  exact this
abbrev AT := Int × Int × PT × Int
def a0 : AT := (0, 0, zT, 0)
variable {c : Int × PT → List Value} {k : Nat}
theorem flat_len (hc : ∀ x, (c x).length = k) : ∀ X : TR, (X.flatMap c).length = X.length * k
  | [] => by simp
  | x :: X => by
    rw [List.flatMap_cons, List.length_append, hc, flat_len hc X, List.length_cons, Nat.add_mul]
    omega
theorem flat_take (hc : ∀ x, (c x).length = k) : ∀ (X : TR) (n : Nat), n ≤ X.length → (X.take n).flatMap c = (X.flatMap c).take (n * k)
  | X, 0, _ => by simp
  | [], n + 1, h => by simp at h
  | x :: X, n + 1, h => by
    have ih := flat_take hc X n (by rw [List.length_cons] at h; omega)
    rw [List.take_succ_cons, List.flatMap_cons, List.flatMap_cons, ih, List.take_append, hc x, List.take_of_length_le (l := c x) (by rw [hc x, Nat.add_mul]; omega), show (n + 1) * k - k = n * k by rw [Nat.add_mul]; omega]
theorem flat_at (hc : ∀ x, (c x).length = k) : ∀ (X : TR) (i : Nat) (x : Int × PT), X[i]? = some x → ((X.flatMap c).drop (i * k)).take k = c x
  | [], i, x, h => by simp at h
  | a :: X, 0, x, h => by
    simp at h
    subst h
    rw [List.flatMap_cons, Nat.zero_mul, List.drop_zero, ← hc a, List.take_left]
  | a :: X, i + 1, x, h => by
    have ih := flat_at hc X i x (by simpa using h)
    rw [List.flatMap_cons, List.drop_append, hc a, List.drop_of_length_le (by rw [hc a, Nat.add_mul]; omega), List.nil_append, show (i + 1) * k - k = i * k by rw [Nat.add_mul]; omega]
    exact ih
theorem flat_set (hc : ∀ x, (c x).length = k) : ∀ (X : TR) (i : Nat) (y : Int × PT), i < X.length → (X.set i y).flatMap c = splice (X.flatMap c) (i * k) (c y)
  | [], i, y, h => by simp at h
  | a :: X, 0, y, h => by
    unfold splice
    rw [List.set_cons_zero, List.flatMap_cons, List.flatMap_cons, Nat.zero_mul, List.take_zero, Nat.zero_add, hc y, List.nil_append, ← hc a, List.drop_left]
  | a :: X, i + 1, y, h => by
    have ih := flat_set hc X i y (by simpa using h)
    unfold splice at ih ⊢
    have e : (i + 1) * k = k + i * k := by rw [Nat.add_mul]; omega
    rw [List.set_cons_succ, List.flatMap_cons, List.flatMap_cons, ih, e, List.take_append, List.drop_append, hc a, List.take_of_length_le (l := c a) (by rw [hc a]; omega), List.drop_eq_nil_of_le (show (c a).length ≤ k + i * k + (c y).length by rw [hc a]; omega), show k + i * k - k = i * k by omega, show k + i * k + (c y).length - k = i * k + (c y).length by omega]
    simp

def ColX (w : World) (t : TypeId) (k : Nat) (c : Int × PT → List Value) (v : Value) (X : TR) : Prop := w.ownsRow 0 t k v X.length (X.flatMap c)
theorem ColX.nil (w : World) (t : TypeId) (k : Nat) (c : Int × PT → List Value) : ColX w t k c (.slice none 0 0) [] := World.ownsRow_nil _ _ _ _
theorem ColX.open_ {w : World} {t : TypeId} {v : Value} {X : TR} (h : ColX w t k c v X) (hX : 0 < X.length) :
    ∃ g cap cur, v = .slice (some ⟨g, 0, none⟩) X.length cap ∧ Blk w g t (List.toArray cur) ∧ X.length ≤ cap ∧ cap ≤ maxLen ∧ cur.length = cap * k ∧ cur.take (X.length * k) = X.flatMap c := by
  rcases h.2 with ⟨_, h0⟩ | ⟨g, cap, cur, hv, _, hg, hn, hm, hs, ht⟩
  · omega
  · exact ⟨g, cap, cur.toList, hv, by simpa [Blk] using hg, hn, hm, by simpa using hs, ht⟩
theorem ColX.close {w : World} {t : TypeId} {X : TR} {g cap : Nat} {cur : List Value} (hc : ∀ x, (c x).length = k) (hb : Blk w g t cur.toArray) (hn : X.length ≤ cap) (hm : cap ≤ maxLen) (hs : cur.length = cap * k) (ht : cur.take (X.length * k) = X.flatMap c) : ColX w t k c (.slice (some ⟨g, 0, none⟩) X.length cap) X :=
  ⟨flat_len hc X, Or.inr ⟨g, cap, cur.toArray, rfl, Nat.zero_le _, hb, hn, hm, by simpa using hs, by simpa using ht⟩⟩
theorem ColX.form {w : World} {t : TypeId} {v : Value} {X : TR} (h : ColX w t k c v X) : ∃ a cap, v = .slice a X.length cap ∧ X.length ≤ cap ∧ cap ≤ maxLen := by
  rcases h.2 with ⟨hv, h0⟩ | ⟨g, cap, cur, hv, _, hg, hn, hm, hs, ht⟩
  · exact ⟨none, 0, by rw [h0]; exact hv, by omega, by unfold maxLen; omega⟩
  · exact ⟨_, cap, hv, hn, hm⟩
theorem ColX.range {w : World} {t : TypeId} {X : TR} {g n cap : Nat} (hc : ∀ x, (c x).length = k) (h : ColX w t k c (.slice (some ⟨g, 0, none⟩) n cap) X) {i : Nat} {x : Int × PT} (hi : X[i]? = some x) : w.rangeAt g (i * k) (c x) := by
  have hlt : i < X.length := (List.getElem?_eq_some_iff.1 hi).1
  obtain ⟨g', cap', cur, hv, hb, hn, hm, hs, ht⟩ := h.open_ (by omega)
  injection hv with h1 h2 h3
  injection h1 with h1
  injection h1 with h1
  subst h1
  have := blk_range hb (i * k) k
  have e : (cur.drop (i * k)).take k = c x := by
    rw [← flat_at hc X i x hi, ← ht, List.drop_take, List.take_take, Nat.min_eq_left]
    have : (i + 1) * k ≤ X.length * k := Nat.mul_le_mul_right _ hlt
    rw [Nat.add_mul] at this
    omega
  rwa [e] at this
theorem ColX.blk {w : World} {t : TypeId} {X : TR} {g n cap : Nat} (h : ColX w t k c (.slice (some ⟨g, 0, none⟩) n cap) X) (hX : 0 < X.length) : ∃ cur, Blk w g t (List.toArray cur) ∧ X.length * k ≤ cur.length ∧ X.length = n ∧ X.length ≤ cap ∧ cap ≤ maxLen ∧ cur.length = cap * k ∧ cur.take (X.length * k) = X.flatMap c := by
  obtain ⟨g', cap', cur, hv, hb, hn, hm, hs, ht⟩ := h.open_ hX
  injection hv with h1 h2 h3
  injection h1 with h1
  injection h1 with h1
  subst h1
  subst h3
  exact ⟨cur, hb, by rw [hs]; exact Nat.mul_le_mul_right _ hn, h2.symm, hn, hm, hs, ht⟩
theorem splice_take {A vs : List Value} {o n : Nat} (h : o + vs.length ≤ n) (hn : n ≤ A.length) : (splice A o vs).take n = splice (A.take n) o vs := by
  unfold splice
  rw [List.take_append, List.take_append, List.take_take, List.drop_take, List.length_append, List.length_take, Nat.min_eq_left (show o ≤ A.length by omega), List.take_take, Nat.min_eq_right (show o ≤ n by omega), Nat.min_eq_left (show o ≤ n by omega), List.take_of_length_le (show vs.length ≤ n - o by omega)]
theorem ColX.there {w : World} {t : TypeId} {X : TR} {g n cap : Nat} (h : ColX w t k c (.slice (some ⟨g, 0, none⟩) n cap) X) {i : Nat} (hi : i < X.length) : w.there g (i * k) k := by
  obtain ⟨cur, hb, hl, _⟩ := h.blk (by omega)
  refine blk_there hb ?_
  have : (i + 1) * k ≤ X.length * k := Nat.mul_le_mul_right _ hi
  rw [Nat.add_mul] at this
  omega
theorem ColX.set_ {w : World} {t : TypeId} {X : TR} {g n cap : Nat} (hc : ∀ x, (c x).length = k) (h : ColX w t k c (.slice (some ⟨g, 0, none⟩) n cap) X) {i : Nat} (hi : i < X.length) (y : Int × PT) : ColX (w.setCells g (i * k) (c y)) t k c (.slice (some ⟨g, 0, none⟩) n cap) (X.set i y) := by
  obtain ⟨cur, hb, hl, hn, hcap, hm, hs, ht⟩ := h.blk (by omega)
  have h1 : (i + 1) * k ≤ X.length * k := Nat.mul_le_mul_right _ hi
  rw [Nat.add_mul] at h1
  have hb' := blk_setCells (c y) (o := i * k) hb (by rw [hc]; omega)
  subst hn
  have := ColX.close (X := X.set i y) (cap := cap) hc hb' (by rw [List.length_set]; exact hcap) hm (by rw [splice_len (by rw [hc]; omega)]; exact hs) (by rw [List.length_set, splice_take (by rw [hc]; omega) hl, ht, flat_set hc X i y hi])
  rw [List.length_set] at this
  exact this
theorem ColX.take_ {w : World} {t : TypeId} {X : TR} {g n cap : Nat} (hc : ∀ x, (c x).length = k) (h : ColX w t k c (.slice (some ⟨g, 0, none⟩) n cap) X) (hX : 0 < X.length) {m : Nat} (hm' : m ≤ X.length) : ColX w t k c (.slice (some ⟨g, 0, none⟩) m cap) (X.take m) := by
  obtain ⟨cur, hb, hl, hn, hcap, hm, hs, ht⟩ := h.blk hX
  have e : (X.take m).length = m := by rw [List.length_take]; omega
  have := ColX.close (X := X.take m) (cap := cap) hc hb (by rw [e]; omega) hm hs (by rw [e, flat_take hc X m hm', ← ht, List.take_take, Nat.min_eq_left (Nat.mul_le_mul_right _ hm')])
  rw [e] at this
  exact this
theorem ColX.kept {w w' : World} {t : TypeId} {v : Value} {X : TR} {row : Option Nat} (h : ColX w t k c v X) (hg : w.grownBy w' row) (hne : v.ownBlock = none ∨ v.ownBlock ≠ row) : ColX w' t k c v X := World.ownsRow.kept h hg hne
theorem ColX.same {w w' : World} {t : TypeId} {v : Value} {X : TR} (h : ColX w t k c v X) (he : ∀ b, v.ownBlock = some b → w'.heap[b]? = w.heap[b]?) : ColX w' t k c v X := by
  refine ⟨h.1, ?_⟩
  rcases h.2 with hn | ⟨g, cap, cur, rfl, hb, hgg, rest⟩
  · exact .inl hn
  · exact .inr ⟨g, cap, cur, rfl, hb, by rw [he g rfl]; exact hgg, rest⟩
theorem grown_sets : ∀ (vs : List Value) (w : World) (g o : Nat), w.grownBy (w.setCells g o vs) (some g)
  | [], w, g, o => ⟨rfl, rfl, rfl, Nat.le_refl _, fun _ _ _ => rfl⟩
  | v :: vs, w, g, o => by
    have h1 : w.grownBy (w.setCell ⟨g, o, none⟩ v) (some g) := ⟨rfl, rfl, rfl, by simp [World.setCell], fun j _ hne => by simp [World.setCell, Array.getElem?_modify]; intro e; exact absurd (by rw [e]) hne⟩
    have h2 := grown_sets vs (w.setCell ⟨g, o, none⟩ v) g (o + 1)
    exact ⟨h2.os.trans h1.os, h2.tape.trans h1.tape, h2.output.trans h1.output, Nat.le_trans h1.size h2.size, fun i hi hne => (h2.block i (Nat.lt_of_lt_of_le hi h1.size) hne).trans (h1.block i hi hne)⟩

def upd {α : Type} (f : Nat → α) (k : Nat) (v : α) (j : Nat) : α := if j = k then v else f j
def poolF (R : Int) (G : Nat → Int) (L : Nat → Bool) (j : Nat) : Value := if j = 0 then .int .i64 R else if j < 257 then .int .i64 (G (j - 1)) else .bool (L (j - 257))
section
variable {w : World} {g : Nat} {t : TypeId} {R : Int} {G : Nat → Int} {L : Nat → Bool} {k : Nat}
theorem pool_room (h : w.rowIs g t 513 (poolF R G L)) : w.cell? ⟨g, 0, none⟩ = some (.int .i64 R) := h.cell (i := 0) (by omega)
theorem pool_gen (h : w.rowIs g t 513 (poolF R G L)) (hk : k < 256) : w.cell? ⟨g, 1 + k, none⟩ = some (.int .i64 (G k)) := by
  rw [h.cell (i := 1 + k) (by omega)]
  unfold poolF
  rw [if_neg (by omega), if_pos (by omega), show 1 + k - 1 = k by omega]
theorem pool_live (h : w.rowIs g t 513 (poolF R G L)) (hk : k < 256) : w.cell? ⟨g, 257 + k, none⟩ = some (.bool (L k)) := by
  rw [h.cell (i := 257 + k) (by omega)]
  unfold poolF
  rw [if_neg (by omega), if_neg (by omega), show 257 + k - 257 = k by omega]
theorem pool_setL (h : w.rowIs g t 513 (poolF R G L)) (hk : k < 256) (b : Bool) : (w.setCell ⟨g, 257 + k, none⟩ (.bool b)).rowIs g t 513 (poolF R G (upd L k b)) :=
  (h.set (257 + k) (.bool b)).congr fun i hi => by
    unfold poolF upd
    by_cases e : i = 257 + k
    · rw [if_pos e, if_neg (by omega), if_neg (by omega), if_pos (by omega)]
    · rw [if_neg e]
      by_cases e0 : i = 0
      · rw [if_pos e0, if_pos e0]
      · rw [if_neg e0, if_neg e0]
        by_cases e1 : i < 257
        · rw [if_pos e1, if_pos e1]
        · rw [if_neg e1, if_neg e1, if_neg (by omega)]
theorem pool_setG (h : w.rowIs g t 513 (poolF R G L)) (hk : k < 256) (x : Int) : (w.setCell ⟨g, 1 + k, none⟩ (.int .i64 x)).rowIs g t 513 (poolF R (upd G k x) L) :=
  (h.set (1 + k) (.int .i64 x)).congr fun i hi => by
    unfold poolF upd
    by_cases e : i = 1 + k
    · rw [if_pos e, if_neg (by omega), if_pos (by omega), if_pos (by omega)]
    · rw [if_neg e]
      by_cases e0 : i = 0
      · rw [if_pos e0, if_pos e0]
      · rw [if_neg e0, if_neg e0]
        by_cases e1 : i < 257
        · rw [if_pos e1, if_pos e1, if_neg (by omega)]
        · rw [if_neg e1, if_neg e1]
theorem rowIs_drew {n : Nat} {f : Nat → Value} (h : w.rowIs g t n f) : w.drew.rowIs g t n f := h
end
theorem grown_set (w : World) (g i : Nat) (u : Value) : w.grownBy (w.setCell ⟨g, i, none⟩ u) (some g) := by
  have hb := (Below.refl 0 w).setCell (p := ⟨g, i, none⟩) (Nat.zero_le _) u
  exact ⟨hb.os, hb.tape, hb.output, hb.size, fun k _ hne => Below.heap_setCell _ _ _ _ (fun e => hne (by rw [e]))⟩
theorem grown_drew {a b : World} {r : Option Nat} (h : a.grownBy b r) : a.grownBy b.drew r := ⟨h.os, h.tape, h.output, h.size, h.block⟩
theorem grown_trans {a b c : World} {r : Option Nat} (h : a.grownBy b r) (k : b.grownBy c r) : a.grownBy c r :=
  ⟨k.os.trans h.os, k.tape.trans h.tape, k.output.trans h.output, Nat.le_trans h.size k.size, fun i hi hn => (k.block i (Nat.lt_of_lt_of_le hi h.size) hn).trans (h.block i hi hn)⟩
theorem below_grown {a b : World} (h : Below a.heap.size a b) (r : Option Nat) : a.grownBy b r := ⟨h.os, h.tape, h.output, h.size, fun k hk _ => h.block k hk⟩
def idOk (x : Int) : Bool := decide (0 ≤ x) && decide (x < 16777216)
def nm (g : Int) (i : Nat) : Int := 256 * g + i
theorem id_parts {x : Int} (h : idOk x = true) : ∃ i q : Nat, i < 256 ∧ q < 65536 ∧ x = 256 * (q : Int) + i ∧ x.tmod 256 = i ∧ x.tdiv 256 = q := by
  have h2 : 0 ≤ x ∧ x < 16777216 := by simpa [idOk] using h
  obtain ⟨n, rfl⟩ := Int.eq_ofNat_of_zero_le h2.1
  refine ⟨n % 256, n / 256, by omega, by omega, by omega, ?_, ?_⟩
  · rw [Int.tmod_eq_emod_of_nonneg (by omega)]; omega
  · rw [Int.tdiv_eq_ediv_of_nonneg (by omega)]; omega
def liveB (G : Nat → Int) (L : Nat → Bool) (x : Int) : Bool := idOk x && (L (x % 256).toNat && decide (G (x % 256).toNat = x / 256))
theorem live_no {G : Nat → Int} {L : Nat → Bool} {x : Int} (h : idOk x = false) : liveB G L x = false := by unfold liveB; rw [h]; rfl
theorem live_of {G : Nat → Int} {L : Nat → Bool} {i q : Nat} (hi : i < 256) (hq : q < 65536) : liveB G L (256 * (q : Int) + i) = (L i && decide (G i = (q : Int))) := by
  unfold liveB
  rw [show ((256 * (q : Int) + i) % 256).toNat = i by omega, show (256 * (q : Int) + i) / 256 = q by omega, show idOk (256 * (q : Int) + i) = true by unfold idOk; simp; omega]
  rfl
def freeB (G : Nat → Int) (L : Nat → Bool) (i : Nat) : Bool := !L i && decide (G i ≤ 65535)
def tkI (G : Nat → Int) (L : Nat → Bool) (R : Nat) : Option Nat := (List.range R).find? (freeB G L)
def tkV (G : Nat → Int) (L : Nat → Bool) (R : Nat) : Int := match tkI G L R with | some i => nm (G i) i | none => 0
def tkE (G : Nat → Int) (L : Nat → Bool) (R : Nat) : Int := match tkI G L R with | some _ => 0 | none => 3
def tkL (G : Nat → Int) (L : Nat → Bool) (R : Nat) : Nat → Bool := match tkI G L R with | some i => upd L i true | none => L
theorem tk_some {G : Nat → Int} {L : Nat → Bool} {R k : Nat} (hk : k < R) (h : ∀ j, j < k → freeB G L j = false) (hf : freeB G L k = true) : tkI G L R = some k := by
  unfold tkI
  rw [List.find?_range_eq_some]
  exact ⟨hf, by simpa using hk, fun j hj => by rw [h j hj]; rfl⟩
theorem tk_none {G : Nat → Int} {L : Nat → Bool} {R : Nat} (h : ∀ j, j < R → freeB G L j = false) : tkI G L R = none := by
  unfold tkI
  rw [List.find?_eq_none]
  intro j hj
  rw [h j (by simpa using hj)]
  simp
theorem free_step {G : Nat → Int} {L : Nat → Bool} {k : Nat} (h : ∀ j, j < k → freeB G L j = false) (hk : freeB G L k = false) : ∀ j, j < k + 1 → freeB G L j = false := fun j hj => by
  by_cases c : j = k
  · rw [c]; exact hk
  · exact h j (by omega)
def GenOk (G : Nat → Int) : Prop := ∀ i, i < 256 → 0 ≤ G i ∧ G i ≤ 100000

def drL (G : Nat → Int) (L : Nat → Bool) (x : Int) : Nat → Bool := if liveB G L x then upd L (x % 256).toNat false else L
def drG (G : Nat → Int) (L : Nat → Bool) (x : Int) : Nat → Int := if liveB G L x then upd G (x % 256).toNat (G (x % 256).toNat + 1) else G

def allL (G : Nat → Int) (L : Nat → Bool) (k : Nat) : List Int := ((List.range k).filter L).map fun i => nm (G i) i
theorem all_yes {G : Nat → Int} {L : Nat → Bool} {k : Nat} (h : L k = true) : allL G L (k + 1) = allL G L k ++ [nm (G k) k] := by
  unfold allL; rw [List.range_succ, List.filter_append, List.map_append]; simp [h]
theorem all_no {G : Nat → Int} {L : Nat → Bool} {k : Nat} (h : L k = false) : allL G L (k + 1) = allL G L k := by
  unfold allL; rw [List.range_succ, List.filter_append, List.map_append]; simp [h]
theorem all_len (G : Nat → Int) (L : Nat → Bool) (k : Nat) : (allL G L k).length ≤ k := by
  unfold allL; rw [List.length_map]; exact Nat.le_trans (List.length_filter_le _ _) (by simp)

def OwnD (w : World) (base : Nat) (v : Value) (n : Nat) (zs : List Int) : Prop := w.ownsRow base 81 1 v n (zs.map (Value.int .i64))
theorem id_info : (Tryz.prog.info? 81).map (fun i => (i.zero, i.size, i.bytes)) = some (some (.int .i64 0), 1, 8) := by kernel_rfl
theorem OwnD.nil (w : World) (base : Nat) : OwnD w base (.slice none 0 0) 0 [] := World.ownsRow_nil _ _ _ _
theorem OwnD.row {w : World} {base : Nat} {v : Value} {n : Nat} {zs : List Int} (h : OwnD w base v n zs) : ∃ a cap, v = .slice a n cap ∧ Row w a n zs := by
  have hl : zs.length = n := by simpa using h.1
  rcases h.2 with ⟨rfl, rfl⟩ | ⟨g, cap, cur, rfl, hb, hh, hnc, hm, hs, ht⟩
  · exact ⟨none, 0, rfl, hl, by omega, Or.inl rfl⟩
  · unfold maxLen at hm
    refine ⟨_, cap, rfl, hl, by omega, Or.inr ⟨g, 0, rfl, fun i hi => ?_⟩⟩
    rw [Nat.zero_add]
    have hi' : i < (zs.map (Value.int .i64)).length := by rw [List.length_map]; omega
    have hc := World.ownsRow.cellAt (j := i) h (by omega)
    rw [hc]
    simp [List.getD, List.getElem?_eq_getElem (show i < zs.length by omega)]
theorem grownD_below {w0 wr w' : World} {base B : Nat} {v : Value} {n : Nat} {zs : List Int} {o : Obj} (ho : OwnD wr base v n zs) (hB : B ≤ base) (hb : Below B w0 wr) (hs : B ≤ wr.heap.size) (hg : (wr.alloc o).grownBy w' v.ownBlock) : Below B w0 w' :=
  (hb.alloc hs o).grown hg (by simp; omega) (fun k hk => by have := World.ownsRow.lt ho k hk; omega)

theorem row_at {w : World} {a : Option Addr} {len : Nat} {zs : List Int} (h : Row w a len zs) {k : Nat} (hk : k < len) : ∃ b off x, a = some ⟨b, off, none⟩ ∧ zs[k]? = some x ∧ w.cell? ⟨b, off + k, none⟩ = some (.int .i64 x) := by
  obtain ⟨h1, h2, h3⟩ := h
  rcases h3 with h3 | ⟨b, off, rfl, hc⟩
  · omega
  · have hk' : k < zs.length := by omega
    have c := hc k hk
    rw [show zs.getD k 0 = zs[k] by simp [List.getD, List.getElem?_eq_getElem hk']] at c
    exact ⟨b, off, _, rfl, List.getElem?_eq_getElem hk', c⟩

def z0 : Nat → Int := fun _ => 0
def n0 : Nat → Bool := fun _ => false
def zcells : Array Value := ((List.range 513).map (poolF 0 z0 n0)).toArray
theorem to_list (l : List Value) : l.toArray.toList = l := rfl
theorem zc_list : zcells.toList = (List.range 513).map (poolF 0 z0 n0) := by unfold zcells; exact to_list _
theorem zc_size : zcells.size = 513 := by unfold zcells; simp
theorem zc_ne : ¬ zcells = #[] := by intro e; have h := zc_size; rw [e] at h; cases h
theorem zv_pool (w : World) : (zeroValue 189).run Tryz.prog w = .ok (.agg zcells) w := by kernel_rfl
def POk (R : Nat) (G : Nat → Int) (L : Nat → Bool) : Prop := R ≤ 256 ∧ (∀ i, 0 ≤ G i ∧ G i ≤ 65536) ∧ ∀ i, L i = true → i < R ∧ G i ≤ 65535
theorem POk.gen {R : Nat} {G : Nat → Int} {L : Nat → Bool} (h : POk R G L) : GenOk G := fun i _ => by have := h.2.1 i; omega
theorem POk.zero {R : Nat} (h : R ≤ 256) : POk R z0 n0 := ⟨h, fun i => by unfold z0; omega, fun i hi => by cases hi⟩
theorem tk_spec {G : Nat → Int} {L : Nat → Bool} {R i : Nat} (h : tkI G L R = some i) : i < R ∧ L i = false ∧ G i ≤ 65535 := by
  unfold tkI at h
  have h1 := List.find?_some h
  have h2 := List.mem_of_find?_eq_some h
  unfold freeB at h1
  simp at h1 h2
  exact ⟨h2, h1.1, h1.2⟩
theorem POk.take {R : Nat} {G : Nat → Int} {L : Nat → Bool} (h : POk R G L) : POk R G (tkL G L R) := by
  unfold tkL
  cases e : tkI G L R with
  | none => exact h
  | some i =>
    obtain ⟨hi, _, hg⟩ := tk_spec e
    refine ⟨h.1, h.2.1, fun j hj => ?_⟩
    unfold upd at hj
    by_cases c : j = i
    · rw [c]; exact ⟨hi, hg⟩
    · simp only [if_neg c] at hj; exact h.2.2 j hj
theorem live_spec {G : Nat → Int} {L : Nat → Bool} {x : Int} (h : liveB G L x = true) : ∃ i : Nat, i < 256 ∧ (x % 256).toNat = i ∧ L i = true ∧ x = nm (G i) i := by
  unfold liveB at h
  have h3 : idOk x = true ∧ L (x % 256).toNat = true ∧ G (x % 256).toNat = x / 256 := by simpa using h
  refine ⟨_, by omega, rfl, h3.2.1, ?_⟩
  rw [h3.2.2]
  unfold nm
  omega
theorem POk.drop {R : Nat} {G : Nat → Int} {L : Nat → Bool} (h : POk R G L) (x : Int) : POk R (drG G L x) (drL G L x) := by
  unfold drG drL
  by_cases c : liveB G L x = true
  · rw [if_pos c, if_pos c]
    obtain ⟨i, _, e, hl, _⟩ := live_spec c
    rw [e]
    refine ⟨h.1, fun j => ?_, fun j hj => ?_⟩
    · unfold upd
      by_cases d : j = i
      · simp only [if_pos d]
        have := h.2.1 i
        have := h.2.2 i hl
        omega
      · simp only [if_neg d]; exact h.2.1 j
    · unfold upd at hj ⊢
      by_cases d : j = i
      · simp only [if_pos d] at hj; cases hj
      · simp only [if_neg d] at hj ⊢; exact h.2.2 j hj
  · rw [if_neg c, if_neg c]; exact h
def l1 : Nat → Bool := tkL z0 n0 2
def l2 : Nat → Bool := tkL z0 l1 2
def l3 : Nat → Bool := tkL z0 l2 2
def g4 : Nat → Int := drG z0 l3 0
theorem ownD_keep {wr w2 : World} {base : Nat} {v : Value} {n : Nat} {zs : List Int} (h : OwnD wr base v n zs) (hb : Below wr.heap.size wr w2) : OwnD w2 base v n zs := by
  refine ⟨h.1, ?_⟩
  rcases h.2 with h0 | ⟨k, cap, cur, e, hbs, hh, r⟩
  · exact .inl h0
  · refine .inr ⟨k, cap, cur, e, hbs, ?_, r⟩
    rw [hb.block k (Array.getElem?_eq_some_iff.1 hh).1]
    exact hh

theorem id_nm {q : Int} {i : Nat} (hi : i < 256) (h0 : 0 ≤ q) (h1 : q ≤ 65535) : idOk (nm q i) = true := by unfold idOk nm; simp; omega
theorem live_nm {G : Nat → Int} {L : Nat → Bool} {i : Nat} (hi : i < 256) (h0 : 0 ≤ G i) (h1 : G i ≤ 65535) (hl : L i = true) : liveB G L (nm (G i) i) = true := by
  unfold liveB
  rw [id_nm hi h0 h1, show (nm (G i) i % 256).toNat = i by unfold nm; omega, hl, show nm (G i) i / 256 = G i by unfold nm; omega]
  simp
theorem live_all {G : Nat → Int} {L : Nat → Bool} {R : Nat} {x : Int} (hp : POk R G L) (h : x ∈ allL G L 256) : liveB G L x = true := by
  unfold allL at h
  rw [List.mem_map] at h
  obtain ⟨i, hi, rfl⟩ := h
  rw [List.mem_filter] at hi
  exact live_nm (by simpa using hi.1) (hp.2.1 i).1 (hp.2.2 i hi.2).2 hi.2

theorem tk_none_v {G : Nat → Int} {L : Nat → Bool} {R : Nat} (h : tkI G L R = none) : tkV G L R = 0 ∧ tkE G L R = 3 ∧ tkL G L R = L := by unfold tkV tkE tkL; rw [h]; exact ⟨rfl, rfl, rfl⟩
theorem tk_some_v {G : Nat → Int} {L : Nat → Bool} {R i : Nat} (h : tkI G L R = some i) : tkV G L R = nm (G i) i ∧ tkE G L R = 0 := by unfold tkV tkE; rw [h]; exact ⟨rfl, rfl⟩

def upf {α : Type} (f : Nat → α) (k : Nat) (v : α) (j : Nat) : α := if j = k then v else f j
structure St where
  room : Nat
  G : Nat → Int
  L : Nat → Bool
  T : Nat → TR
  now : Int
  ch : List (Int × Int)
  go : List (Int × Int)
def St0 (r : Nat) : St := ⟨r, z0, n0, fun _ => [], 1, [], []⟩
def markL (ch : List (Int × Int)) (id now : Int) : List (Int × Int) := (ch.filter fun x => x.1 != id) ++ [(id, now)]
def atS (S : St) (id : Int) : Option Nat := (List.range 32).find? (fun i => hasId (S.T i) id)
def getB (S : St) (id : Int) : Bool := (atS S id).isSome
def getP (S : St) (id : Int) : PT := match atS S id with | some i => ((S.T i).getD (findI (S.T i) id).toNat d0).2 | none => zT
def spE (S : St) (P : PT) : Int := if rightT P then tkE S.G S.L S.room else 1
def spV (S : St) (P : PT) : Int := if spE S P = 0 then tkV S.G S.L S.room else 0
def spS (S : St) (P : PT) : St := if spE S P = 0 then { S with L := tkL S.G S.L S.room, T := upf S.T P.1.toNat (tadR P.1 (S.T P.1.toNat) (tkV S.G S.L S.room) P), ch := markL S.ch (tkV S.G S.L S.room) S.now } else S
def deE (S : St) (id : Int) : Int := if getB S id then 0 else 4
def deS (S : St) (id : Int) : St := match atS S id with
  | some i => { S with T := upf S.T i (tcuR (S.T i) (findI (S.T i) id)), G := drG S.G S.L id, L := drL S.G S.L id, go := S.go ++ [(id, S.now)] }
  | none => S
def layTs (T : Nat → TR) (i : Nat) (id : Int) (P : PT) : Nat → TR :=
  if i = P.1.toNat then upf T i (tpuR i (T i) (findI (T i) id) P)
  else upf (upf T i (tcuR (T i) (findI (T i) id))) P.1.toNat (tadR P.1 (upf T i (tcuR (T i) (findI (T i) id)) P.1.toNat) id P)
def layS (S : St) (id : Int) (P : PT) : St := match atS S id with
  | some i => { S with T := layTs S.T i id P, ch := markL S.ch id S.now }
  | none => S
def puE (S : St) (id : Int) (Q : PT) (ks : List Int) : Int := if getB S id then withE (getP S id) Q ks else 4
def puS (S : St) (id : Int) (Q : PT) (ks : List Int) : St := if puE S id Q ks = 0 then layS S id (withV (getP S id) Q ks) else S
def cuE (S : St) (id : Int) (ks : List Int) : Int := if getB S id then woutE (getP S id) ks else 4
def cuS (S : St) (id : Int) (ks : List Int) : St := if cuE S id ks = 0 then layS S id (woutV (getP S id) ks) else S
def liveS (S : St) (id : Int) : Bool := liveB S.G S.L id
def to1 (S : St) (id : Int) : St := if liveS S id then { S with ch := markL S.ch id S.now } else S
def toS (S : St) (l : List Int) : St := l.foldl to1 S
def toN (S : St) (l : List Int) : Nat := (l.filter (liveS S)).length
def neS (S : St) : St := { S with now := S.now + 1 }
def insI (out : List Int) (x : Int) : List Int := out.takeWhile (fun y => decide (y ≤ x)) ++ x :: out.dropWhile (fun y => decide (y ≤ x))
def sortI (l : List Int) : List Int := l.foldl insI []
def chL (S : St) (since : Int) : List Int := sortI ((S.ch.filter fun x => liveS S x.1 && decide (since < x.2)).map Prod.fst)
def goL (S : St) (since : Int) : List Int := sortI ((S.go.filter fun x => decide (since < x.2)).map Prod.fst)
def alS (S : St) : List Int := allL S.G S.L 256

def inS (S : St) (id : Int) (P : PT) : Prop := ∃ i, i < 32 ∧ (id, P) ∈ S.T i
theorem hasId_mem {R : TR} {id : Int} : hasId R id = true ↔ ∃ P, (id, P) ∈ R := by
  unfold hasId
  rw [List.any_eq_true]
  constructor
  · rintro ⟨⟨x, P⟩, hx, e⟩
    exact ⟨P, by rw [← beq_iff_eq.1 e]; exact hx⟩
  · rintro ⟨P, hx⟩
    exact ⟨_, hx, by simp⟩
structure WS (S : St) : Prop where
  nod : ∀ i, i < 32 → ((S.T i).map Prod.fst).Nodup
  apart : ∀ i, i < 32 → ∀ j, j < 32 → i ≠ j → ∀ x P Q, (x, P) ∈ S.T i → (x, Q) ∉ S.T j
  fit : ∀ i, i < 32 → ∀ x ∈ S.T i, fitsB i x.2 = true
  live : ∀ x, liveS S x = true ↔ ∃ P, inS S x P
  ok : POk S.room S.G S.L
theorem nod_inj {R : TR} (h : (R.map Prod.fst).Nodup) {x : Int} {P Q : PT} (h1 : (x, P) ∈ R) (h2 : (x, Q) ∈ R) : P = Q := by
  obtain ⟨i, hi, e1⟩ := List.mem_iff_getElem.1 h1
  obtain ⟨j, hj, e2⟩ := List.mem_iff_getElem.1 h2
  have := nodup_at h hi hj (by rw [e1, e2])
  subst this
  rw [e1] at e2
  injection e2
theorem WS.inj {S : St} (h : WS S) {x : Int} {P Q : PT} (h1 : inS S x P) (h2 : inS S x Q) : P = Q := by
  obtain ⟨i, hi, m1⟩ := h1
  obtain ⟨j, hj, m2⟩ := h2
  by_cases c : i = j
  · subst c; exact nod_inj (h.nod i hi) m1 m2
  · exact absurd m2 (h.apart i hi j hj c x P Q m1)
theorem at_some {S : St} {id : Int} {i : Nat} (h : atS S id = some i) : i < 32 ∧ hasId (S.T i) id = true := by
  have h1 := List.find?_some h
  have h2 := List.mem_of_find?_eq_some h
  exact ⟨List.mem_range.1 h2, h1⟩
theorem at_none {S : St} {id : Int} (h : atS S id = none) : ∀ P, ¬ inS S id P := by
  rintro P ⟨i, hi, hm⟩
  have := List.find?_eq_none.1 h i (List.mem_range.2 hi)
  exact this (hasId_mem.2 ⟨P, hm⟩)
theorem getB_iff {S : St} {id : Int} : getB S id = true ↔ ∃ P, inS S id P := by
  unfold getB
  constructor
  · intro h
    obtain ⟨i, hi⟩ := Option.isSome_iff_exists.1 h
    obtain ⟨h1, h2⟩ := at_some hi
    obtain ⟨P, hP⟩ := hasId_mem.1 h2
    exact ⟨P, i, h1, hP⟩
  · rintro ⟨P, hP⟩
    cases c : atS S id with
    | none => exact absurd hP (at_none c P)
    | some i => rfl
theorem at_get {S : St} (h : WS S) {id : Int} {i : Nat} (ha : atS S id = some i) : (id, getP S id) ∈ S.T i := by
  obtain ⟨h1, h2⟩ := at_some ha
  obtain ⟨P, hP⟩ := hasId_mem.1 h2
  obtain ⟨f1, f2⟩ := find_mem (h.nod i h1) hP
  unfold getP
  rw [ha]
  simp only [f2]
  exact hP
theorem WS.get {S : St} (h : WS S) {id : Int} {P : PT} (hP : inS S id P) : getP S id = P := by
  cases c : atS S id with
  | none => exact absurd hP (at_none c P)
  | some i => exact h.inj ⟨i, (at_some c).1, at_get h c⟩ hP
theorem fits_iff {i : Nat} {P : PT} : fitsB i P = true ↔ rightT P = true ∧ P.1 = (i : Int) := by unfold fitsB; rw [Bool.and_eq_true, beq_iff_eq]
theorem right_has {P : PT} (h : rightT P = true) : P.1.toNat < 32 ∧ ((P.1.toNat : Nat) : Int) = P.1 ∧ 0 ≤ P.1 ∧ P.1 ≤ 31 := by
  unfold rightT rightP at h
  simp only [Bool.and_eq_true, decide_eq_true_eq] at h
  omega

theorem mem_add {s : Nat} {R : TR} {id : Int} {P : PT} (hf : fitsB s P = true) (hn : hasId R id = false) : tadR s R id P = R ++ [(id, P)] := by
  unfold tadR tadE
  rw [hf, hn]
  rfl
theorem find_row {R : TR} {id : Int} (h : (R.map Prod.fst).Nodup) (hh : hasId R id = true) : ∃ (i : Nat) (hi : i < R.length), findI R id = (i : Int) ∧ R[i].1 = id ∧ inR R (findI R id) = true := by
  obtain ⟨P, hP⟩ := hasId_mem.1 hh
  obtain ⟨f1, f2⟩ := find_mem h hP
  obtain ⟨i, hi, e1, e2⟩ := inR_spec f1
  refine ⟨i, hi, e1, ?_, f1⟩
  rw [← e2, f2]
theorem mem_cut {R : TR} {id : Int} (h : (R.map Prod.fst).Nodup) (hh : hasId R id = true) {x : Int × PT} : x ∈ tcuR R (findI R id) ↔ x ∈ R ∧ x.1 ≠ id := by
  obtain ⟨i, hi, e1, e2, e3⟩ := find_row h hh
  have hp := cut_filter h hi
  have ec : tcuR R (findI R id) = (R.set i (R.getD (R.length - 1) d0)).take (R.length - 1) := by unfold tcuR; rw [e3, e1]; rfl
  rw [ec, ← hp.mem_iff, List.mem_filter, e2]
  simp
theorem nod_cut {R : TR} {id : Int} (h : (R.map Prod.fst).Nodup) (hh : hasId R id = true) : ((tcuR R (findI R id)).map Prod.fst).Nodup := by
  obtain ⟨i, hi, e1, e2, e3⟩ := find_row h hh
  have hp := cut_filter h hi
  have ec : tcuR R (findI R id) = (R.set i (R.getD (R.length - 1) d0)).take (R.length - 1) := by unfold tcuR; rw [e3, e1]; rfl
  rw [ec]
  exact (hp.map Prod.fst).nodup_iff.1 (List.Nodup.sublist (List.Sublist.map _ List.filter_sublist) h)
theorem put_map {s : Nat} {R : TR} {id : Int} {P : PT} (h : (R.map Prod.fst).Nodup) (hh : hasId R id = true) (hf : fitsB s P = true) : tpuR s R (findI R id) P = R.map (fun x => if x.1 == id then (x.1, P) else x) := by
  obtain ⟨i, hi, e1, e2, e3⟩ := find_row h hh
  have := set_map h hi P
  rw [e2] at this
  rw [this]
  unfold tpuR tpuE
  rw [hf, e3, e1]
  simp [List.getD, List.getElem?_eq_getElem hi, e2]
theorem mem_put {s : Nat} {R : TR} {id : Int} {P : PT} (h : (R.map Prod.fst).Nodup) (hh : hasId R id = true) (hf : fitsB s P = true) {x : Int × PT} : x ∈ tpuR s R (findI R id) P ↔ (x ∈ R ∧ x.1 ≠ id) ∨ x = (id, P) := by
  rw [put_map h hh hf, List.mem_map]
  constructor
  · rintro ⟨y, hy, rfl⟩
    by_cases c : y.1 = id
    · right; rw [if_pos (by simpa using c), c]
    · left; rw [if_neg (by simpa using c)]; exact ⟨hy, c⟩
  · rintro (⟨h1, h2⟩ | rfl)
    · exact ⟨x, h1, by rw [if_neg (by simpa using h2)]⟩
    · obtain ⟨Q, hQ⟩ := hasId_mem.1 hh
      exact ⟨_, hQ, by simp⟩
theorem nod_put {s : Nat} {R : TR} {id : Int} {P : PT} (h : (R.map Prod.fst).Nodup) (hh : hasId R id = true) (hf : fitsB s P = true) : ((tpuR s R (findI R id) P).map Prod.fst).Nodup := by
  rw [put_map h hh hf, List.map_map]
  have : (Prod.fst ∘ fun x : Int × PT => if x.1 == id then (x.1, P) else x) = Prod.fst := by
    funext x
    simp only [Function.comp]
    split <;> rfl
  rw [this]
  exact h

end Go.Proofs.YthhfcedhbfandaaGreat
