/-
  4 texts in one file, each with its own heading.
-/
import Derived.Test.YtkondkajpmafkaaGreatMT10
import Derived.Test.YtkondkajpmafkaaGreatMT03
/-
  Arguments of layer 6, opened: two parts, a slice of kinds.
-/
namespace Go.Proofs.YtkondkajpmafkaaGreat
open Go.ChangeShapes Go.WideShapes Go.ChangeAt Go.RowKit Go.Deep

section
variable {H : Type} {enc : TypeId × Value → H} {w : World} {base : Nat} {spare : Nat → Bool} {held : Bool}

theorem parts_cells {cs : List Value} {P : PT} (hl : cs.length = 24) (h0 : cs[0]? = some (.int .i64 P.1)) (hM : ∀ i, i < 12 → cs[1 + i]? = some (.int .i64 (P.2.1 i))) (h13 : cs[13]? = some (.int .i64 P.2.2.1)) (hB : ∀ i, i < 6 → cs[14 + i]? = some (.int .i64 (P.2.2.2.1 i)))
    (h20 : cs[20]? = some (.int .i64 P.2.2.2.2.1)) (h21 : cs[21]? = some (.int .i64 P.2.2.2.2.2.1)) (h22 : cs[22]? = some (.bool P.2.2.2.2.2.2.1)) (h23 : cs[23]? = some (.int .i64 P.2.2.2.2.2.2.2)) : cs = pl P := by
  match cs, hl with
  | [c0, c1, c2, c3, c4, c5, c6, c7, c8, c9, c10, c11, c12, c13, c14, c15, c16, c17, c18, c19, c20, c21, c22, c23], _ =>
    have m0 := hM 0 (by omega)
    have m1 := hM 1 (by omega)
    have m2 := hM 2 (by omega)
    have m3 := hM 3 (by omega)
    have m4 := hM 4 (by omega)
    have m5 := hM 5 (by omega)
    have m6 := hM 6 (by omega)
    have m7 := hM 7 (by omega)
    have m8 := hM 8 (by omega)
    have m9 := hM 9 (by omega)
    have m10 := hM 10 (by omega)
    have m11 := hM 11 (by omega)
    have b0 := hB 0 (by omega)
    have b1 := hB 1 (by omega)
    have b2 := hB 2 (by omega)
    have b3 := hB 3 (by omega)
    have b4 := hB 4 (by omega)
    have b5 := hB 5 (by omega)
    simp at h0 m0 m1 m2 m3 m4 m5 m6 m7 m8 m9 m10 m11 h13 b0 b1 b2 b3 b4 b5 h20 h21 h22 h23
    rw [h0, m0, m1, m2, m3, m4, m5, m6, m7, m8, m9, m10, m11, h13, b0, b1, b2, b3, b4, b5, h20, h21, h22, h23]
    rfl
theorem piece1 {cs : List Value} {o : Nat} {v : Value} (h : (cs.drop o).take 1 = [v]) : cs[o]? = some v := take1_at h
theorem parts_open {fuel : Nat} {cs : List Value} {x : DataW H × List MemPlace} (hl : cs.length = 24) (h : DataW.trod enc Tryz.prog w base spare held fuel 43 cs = some x) : ∃ P : PT, cs = pl P := by
  obtain ⟨xs, n, _, _, _, hxl, hx⟩ := DataW.trod_struct Tryz.underlying43 h
  have hxl2 : xs.length = 8 := hxl
  have hc0 : Tryz.prog.cellsOf 34 = 1 := by kernel_rfl
  have f0 : DataW.trod enc Tryz.prog w base spare held n 34 ((cs.drop 0).take 1) = some (xs[0]'(by omega)) := by
    have := (hx 0 _ rfl).trans (List.getElem?_eq_getElem (show 0 < xs.length by omega))
    exact (congrArg (fun c => DataW.trod enc Tryz.prog w base spare held n 34 ((cs.drop 0).take c)) hc0.symm).trans this
  have hc1 : Tryz.prog.cellsOf 37 = 12 := by kernel_rfl
  have f1 : DataW.trod enc Tryz.prog w base spare held n 37 ((cs.drop 1).take 12) = some (xs[1]'(by omega)) := by
    have := (hx 1 _ rfl).trans (List.getElem?_eq_getElem (show 1 < xs.length by omega))
    exact (congrArg (fun c => DataW.trod enc Tryz.prog w base spare held n 37 ((cs.drop 1).take c)) hc1.symm).trans this
  have hc2 : Tryz.prog.cellsOf 3 = 1 := by kernel_rfl
  have f2 : DataW.trod enc Tryz.prog w base spare held n 3 ((cs.drop 13).take 1) = some (xs[2]'(by omega)) := by
    have := (hx 2 _ rfl).trans (List.getElem?_eq_getElem (show 2 < xs.length by omega))
    exact (congrArg (fun c => DataW.trod enc Tryz.prog w base spare held n 3 ((cs.drop 13).take c)) hc2.symm).trans this
  have hc3 : Tryz.prog.cellsOf 41 = 6 := by kernel_rfl
  have f3 : DataW.trod enc Tryz.prog w base spare held n 41 ((cs.drop 14).take 6) = some (xs[3]'(by omega)) := by
    have := (hx 3 _ rfl).trans (List.getElem?_eq_getElem (show 3 < xs.length by omega))
    exact (congrArg (fun c => DataW.trod enc Tryz.prog w base spare held n 41 ((cs.drop 14).take c)) hc3.symm).trans this
  have hc4 : Tryz.prog.cellsOf 3 = 1 := by kernel_rfl
  have f4 : DataW.trod enc Tryz.prog w base spare held n 3 ((cs.drop 20).take 1) = some (xs[4]'(by omega)) := by
    have := (hx 4 _ rfl).trans (List.getElem?_eq_getElem (show 4 < xs.length by omega))
    exact (congrArg (fun c => DataW.trod enc Tryz.prog w base spare held n 3 ((cs.drop 20).take c)) hc4.symm).trans this
  have hc5 : Tryz.prog.cellsOf 3 = 1 := by kernel_rfl
  have f5 : DataW.trod enc Tryz.prog w base spare held n 3 ((cs.drop 21).take 1) = some (xs[5]'(by omega)) := by
    have := (hx 5 _ rfl).trans (List.getElem?_eq_getElem (show 5 < xs.length by omega))
    exact (congrArg (fun c => DataW.trod enc Tryz.prog w base spare held n 3 ((cs.drop 21).take c)) hc5.symm).trans this
  have hc6 : Tryz.prog.cellsOf 4 = 1 := by kernel_rfl
  have f6 : DataW.trod enc Tryz.prog w base spare held n 4 ((cs.drop 22).take 1) = some (xs[6]'(by omega)) := by
    have := (hx 6 _ rfl).trans (List.getElem?_eq_getElem (show 6 < xs.length by omega))
    exact (congrArg (fun c => DataW.trod enc Tryz.prog w base spare held n 4 ((cs.drop 22).take c)) hc6.symm).trans this
  have hc7 : Tryz.prog.cellsOf 3 = 1 := by kernel_rfl
  have f7 : DataW.trod enc Tryz.prog w base spare held n 3 ((cs.drop 23).take 1) = some (xs[7]'(by omega)) := by
    have := (hx 7 _ rfl).trans (List.getElem?_eq_getElem (show 7 < xs.length by omega))
    exact (congrArg (fun c => DataW.trod enc Tryz.prog w base spare held n 3 ((cs.drop 23).take c)) hc7.symm).trans this
  obtain ⟨v0, e0, _, _⟩ := DataW.trod_int Tryz.underlying34 f0
  obtain ⟨M, hM⟩ := open_nums Tryz.underlying37 Tryz.underlying35 (by kernel_rfl) f1
  obtain ⟨v2, e2, _, _⟩ := DataW.trod_int Tryz.underlying3 f2
  obtain ⟨B, hB⟩ := box_nums f3
  obtain ⟨v4, e4, _, _⟩ := DataW.trod_int Tryz.underlying3 f4
  obtain ⟨v5, e5, _, _⟩ := DataW.trod_int Tryz.underlying3 f5
  obtain ⟨v6, e6, _⟩ := DataW.trod_bool Tryz.underlying4 f6
  obtain ⟨v7, e7, _, _⟩ := DataW.trod_int Tryz.underlying3 f7
  exact ⟨(v0, M, v2, B, v4, v5, v6, v7), parts_cells hl (piece1 e0) (fun i hi => nums_piece (M := M) (fun i hi => (hM i hi).1) hi) (piece1 e2) (fun i hi => nums_piece hB hi) (piece1 e4) (piece1 e5) (piece1 e6) (piece1 e7)⟩
end
end Go.Proofs.YtkondkajpmafkaaGreat
namespace Go.Proofs.YtkondkajpmafkaaGreat
open Go.RowKit

abbrev TR := List (Int × PT)
def d0 : Int × PT := (0, zT)
def hasId (R : TR) (id : Int) : Bool := R.any fun r => r.1 == id
def findI (R : TR) (id : Int) : Int := match R.findIdx? (fun r => r.1 == id) with | some i => (i : Int) | none => -1
def fitsB (s : Int) (P : PT) : Bool := rightT P && (P.1 == s)
def inR (R : TR) (row : Int) : Bool := decide (0 ≤ row) && decide (row < (R.length : Int))
def tadE (s : Int) (R : TR) (id : Int) (P : PT) : Int := if fitsB s P then (if hasId R id then 5 else 0) else 1
def tadN (s : Int) (R : TR) (id : Int) (P : PT) : Int := if tadE s R id P = 0 then (R.length : Int) else 0
def tadR (s : Int) (R : TR) (id : Int) (P : PT) : TR := if tadE s R id P = 0 then R ++ [(id, P)] else R
def tpuE (s : Int) (R : TR) (row : Int) (P : PT) : Int := if fitsB s P then (if inR R row then 0 else 4) else 1
def tpuR (s : Int) (R : TR) (row : Int) (P : PT) : TR := if tpuE s R row P = 0 then R.set row.toNat ((R.getD row.toNat d0).1, P) else R
def tcuE (R : TR) (row : Int) : Int := if inR R row then 0 else 4
def tcuV (R : TR) (row : Int) : Int := if inR R row then (if row + 1 < (R.length : Int) then (R.getD (R.length - 1) d0).1 else -1) else -1
def tcuR (R : TR) (row : Int) : TR := if inR R row then (R.set row.toNat (R.getD (R.length - 1) d0)).take (R.length - 1) else R
def Fr (w w' : World) (L : Nat → Prop) : Prop := w'.os = w.os ∧ w'.tape = w.tape ∧ w'.output = w.output ∧ w.heap.size ≤ w'.heap.size ∧ ∀ b, b < w.heap.size → ¬ L b → w'.heap[b]? = w.heap[b]?

def TC (TB : World → Nat → (Nat → Prop) → Int → TR → Prop) : Prop :=
  (∀ w w' g L s R, TB w g L s R → (∀ b, L b → w'.heap[b]? = w.heap[b]?) → TB w' g L s R) ∧
  (∀ w g L s R, TB w g L s R → ∀ b, L b → b < w.heap.size) ∧
  (∀ (w : World) (s : Int), 0 ≤ s ∧ s ≤ 31 → Calls Tryz.prog 161 #[.int .i64 s] w fun e w' => ∃ g L, e = .returned (.tuple #[.pointer (some ⟨g, 0, none⟩), .int .i64 0]) ∧ TB w' g L s [] ∧ (∀ b, L b → w.heap.size ≤ b) ∧ Below w.heap.size w w') ∧
  (∀ (w : World) g L s R (id : Int) (P : PT), R.length ≤ 1000 → TB w g L s R → Calls Tryz.prog 128 #[.pointer (some ⟨g, 0, none⟩), .int .i64 id, .agg (pl P).toArray] w fun e w' => ∃ L', e = .returned (.tuple #[.int .i64 (tadN s R id P), .int .i64 (tadE s R id P)]) ∧ TB w' g L' s (tadR s R id P) ∧ Fr w w' L ∧ ∀ b, L' b → L b ∨ w.heap.size ≤ b) ∧
  (∀ (w : World) g L s R (row : Int) (P : PT), R.length ≤ 1000 → TB w g L s R → Calls Tryz.prog 169 #[.pointer (some ⟨g, 0, none⟩), .int .i64 row, .agg (pl P).toArray] w fun e w' => ∃ L', e = .returned (.int .i64 (tpuE s R row P)) ∧ TB w' g L' s (tpuR s R row P) ∧ Fr w w' L ∧ ∀ b, L' b → L b ∨ w.heap.size ≤ b) ∧
  (∀ (w : World) g L s R (row : Int), R.length ≤ 1000 → TB w g L s R → Calls Tryz.prog 133 #[.pointer (some ⟨g, 0, none⟩), .int .i64 row] w fun e w' => ∃ L', e = .returned (.tuple #[.int .i64 (tcuV R row), .int .i64 (tcuE R row)]) ∧ TB w' g L' s (tcuR R row) ∧ Fr w w' L ∧ ∀ b, L' b → L b ∨ w.heap.size ≤ b) ∧
  (∀ (w : World) g L s R (row : Int), R.length ≤ 1000 → TB w g L s R → Calls Tryz.prog 86 #[.pointer (some ⟨g, 0, none⟩), .int .i64 row] w fun e w' => ∃ (x : Int) (P : PT), e = .returned (.tuple #[.int .i64 x, .agg (pl P).toArray, .bool (inR R row)]) ∧ (inR R row = true → (x, P) = R.getD row.toNat d0) ∧ Below w.heap.size w w') ∧
  (∀ (w : World) g L s R (id : Int), R.length ≤ 1000 → TB w g L s R → Calls Tryz.prog 120 #[.pointer (some ⟨g, 0, none⟩), .int .i64 id] w fun e w' => e = .returned (.int .i64 (findI R id)) ∧ Below w.heap.size w w') ∧
  (∀ (w : World) g L s R, R.length ≤ 1000 → TB w g L s R → Calls Tryz.prog 142 #[.pointer (some ⟨g, 0, none⟩)] w fun e w' => e = .returned (.int .i64 (R.length : Int)) ∧ Below w.heap.size w w')

theorem Fr.below {B : Nat} {w0 w w' : World} {L : Nat → Prop} (h : Fr w w' L) (hb : Below B w0 w) (hL : ∀ b, L b → B ≤ b) (hs : B ≤ w.heap.size) : Below B w0 w' :=
  ⟨h.1.trans hb.os, h.2.1.trans hb.tape, h.2.2.1.trans hb.output, Nat.le_trans hb.size h.2.2.2.1, fun k hk => (h.2.2.2.2 k (by omega) (fun c => by have := hL k c; omega)).trans (hb.block k hk)⟩

theorem inR_spec {R : TR} {row : Int} (h : inR R row = true) : ∃ (i : Nat) (hi : i < R.length), row = (i : Int) ∧ R.getD row.toNat d0 = R[i] := by
  unfold inR at h
  rw [Bool.and_eq_true, decide_eq_true_eq, decide_eq_true_eq] at h
  refine ⟨row.toNat, by omega, by omega, ?_⟩
  simp [List.getD, List.getElem?_eq_getElem (show row.toNat < R.length by omega)]
theorem nodup_at {R : TR} (h : (R.map Prod.fst).Nodup) {i j : Nat} (hi : i < R.length) (hj : j < R.length) (e : R[i].1 = R[j].1) : i = j := by
  have hp := List.pairwise_iff_getElem.1 h
  rcases Nat.lt_trichotomy i j with c | c | c
  · exact absurd (by rw [List.getElem_map, List.getElem_map]; exact e) (hp i j (by simpa using hi) (by simpa using hj) c)
  · exact c
  · exact absurd (by rw [List.getElem_map, List.getElem_map]; exact e.symm) (hp j i (by simpa using hj) (by simpa using hi) c)
theorem set_map {R : TR} (h : (R.map Prod.fst).Nodup) {i : Nat} (hi : i < R.length) (P : PT) : R.map (fun x => if x.1 == R[i].1 then (x.1, P) else x) = R.set i (R[i].1, P) := by
  refine List.ext_getElem (by simp) (fun j h1 h2 => ?_)
  have hj : j < R.length := by simpa using h1
  rw [List.getElem_map, List.getElem_set]
  by_cases c : i = j
  · subst c; simp
  · rw [if_neg c, if_neg (by intro e; exact c (nodup_at h hi hj (by simpa using (beq_iff_eq.1 e).symm)))]
theorem filter_erase : ∀ (R : TR) (i : Nat) (hi : i < R.length), (R.map Prod.fst).Nodup → (R.filter fun x => x.1 != (R[i]'hi).1) = R.eraseIdx i
  | [], i, hi, _ => by cases hi
  | a :: r, 0, _, h => by
    rw [List.map_cons, List.nodup_cons] at h
    have : (r.filter fun x => x.1 != a.1) = r := List.filter_eq_self.2 (fun x hx => by
      simp only [bne_iff_ne, ne_eq]
      intro e
      exact h.1 (List.mem_map.2 ⟨x, hx, e⟩))
    simp [this]
  | a :: r, i + 1, hi, h => by
    rw [List.map_cons, List.nodup_cons] at h
    have hi' : i < r.length := by simpa using hi
    have ih := filter_erase r i hi' h.2
    have hne : (a.1 != (r[i]'hi').1) = true := by
      simp only [bne_iff_ne, ne_eq]
      intro e
      exact h.1 (List.mem_map.2 ⟨_, List.getElem_mem hi', e.symm⟩)
    show List.filter (fun x => x.1 != (r[i]'hi').1) (a :: r) = a :: r.eraseIdx i
    rw [List.filter_cons, if_pos hne, ih]
theorem set_erase : ∀ (l : TR) (i : Nat) (a : Int × PT), i < l.length → (l.set i a).Perm (a :: l.eraseIdx i)
  | [], _, _, h => by cases h
  | x :: r, 0, a, _ => List.Perm.refl _
  | x :: r, i + 1, a, h => ((set_erase r i a (by simpa using h)).cons x).trans (List.Perm.swap a x _)
theorem cut_perm (D : TR) (z : Int × PT) (i : Nat) (hi : i < D.length + 1) : ((D ++ [z]).eraseIdx i).Perm (((D ++ [z]).set i z).take D.length) := by
  by_cases c : i < D.length
  · rw [List.eraseIdx_append_of_lt_length c, List.set_append_left _ _ c, List.take_append_of_le_length (by rw [List.length_set]; exact Nat.le_refl _), List.take_of_length_le (by rw [List.length_set]; exact Nat.le_refl _)]
    exact (List.perm_append_singleton _ _).trans (set_erase D i z c).symm
  · have : i = D.length := by omega
    subst this
    rw [List.eraseIdx_append_of_length_le (Nat.le_refl _), List.set_append_right _ _ (Nat.le_refl _), List.take_append_of_le_length (Nat.le_refl _), List.take_of_length_le (Nat.le_refl _)]
    simp
theorem cut_filter {R : TR} (h : (R.map Prod.fst).Nodup) {i : Nat} (hi : i < R.length) : (R.filter fun x => x.1 != R[i].1).Perm ((R.set i (R.getD (R.length - 1) d0)).take (R.length - 1)) := by
  rw [filter_erase R i hi h]
  clear h
  have hn : R ≠ [] := by intro e; rw [e] at hi; cases hi
  obtain ⟨D, z, rfl⟩ : ∃ D z, R = D ++ [z] := ⟨R.dropLast, R.getLast hn, (List.dropLast_concat_getLast hn).symm⟩
  have e1 : (D ++ [z]).length - 1 = D.length := by simp
  have e2 : (D ++ [z]).getD D.length d0 = z := by simp [List.getD]
  rw [e1, e2]
  exact cut_perm D z i (by simpa using hi)

theorem find_mem {R : TR} (h : (R.map Prod.fst).Nodup) {x : Int × PT} (hx : x ∈ R) : inR R (findI R x.1) = true ∧ R.getD (findI R x.1).toNat d0 = x := by
  obtain ⟨i, hi, rfl⟩ := List.getElem_of_mem hx
  have e : R.findIdx? (fun r => r.1 == R[i].1) = some i := by
    rw [List.findIdx?_eq_some_iff_getElem]
    refine ⟨hi, by simp, fun j hj => ?_⟩
    intro c
    have := nodup_at h (i := j) (j := i) (by omega) hi (beq_iff_eq.1 c)
    omega
  have e2 : findI R R[i].1 = (i : Int) := by unfold findI; rw [e]
  rw [e2]
  refine ⟨by unfold inR; simp [hi], ?_⟩
  simp [List.getD, List.getElem?_eq_getElem hi]

def rcells (x : Int × PT) : List Value := .int .i64 x.1 :: pl x.2
theorem range_same {w w' : World} {b o : Nat} {cs : List Value} (h : w.rangeAt b o cs) (e : w'.heap[b]? = w.heap[b]?) : w'.rangeAt b o cs := fun j v hv => by
  have := h j v hv
  simp only [World.cell?] at this ⊢
  rw [e]
  exact this
abbrev AT := Int × Int × PT × Int
def a0 : AT := (0, 0, zT, 0)
variable {c : Int × PT → List Value} {k : Nat}
theorem flat_len (hc : ∀ x, (c x).length = k) : ∀ X : TR, (X.flatMap c).length = X.length * k
  | [] => by simp
  | x :: X => by
    rw [List.flatMap_cons, List.length_append, hc, flat_len hc X, List.length_cons, Nat.add_mul]
    omega
theorem flat_take (hc : ∀ x, (c x).length = k) : ∀ (X : TR) (n : Nat), n ≤ X.length → (X.take n).flatMap c = (X.flatMap c).take (n * k)
  | X, 0, _ => by simp
  | [], n + 1, h => by simp at h
  | x :: X, n + 1, h => by
    have ih := flat_take hc X n (by rw [List.length_cons] at h; omega)
    rw [List.take_succ_cons, List.flatMap_cons, List.flatMap_cons, ih, List.take_append, hc x, List.take_of_length_le (l := c x) (by rw [hc x, Nat.add_mul]; omega), show (n + 1) * k - k = n * k by rw [Nat.add_mul]; omega]
theorem flat_at (hc : ∀ x, (c x).length = k) : ∀ (X : TR) (i : Nat) (x : Int × PT), X[i]? = some x → ((X.flatMap c).drop (i * k)).take k = c x
  | [], i, x, h => by simp at h
  | a :: X, 0, x, h => by
    simp at h
    subst h
    rw [List.flatMap_cons, Nat.zero_mul, List.drop_zero, ← hc a, List.take_left]
  | a :: X, i + 1, x, h => by
    have ih := flat_at hc X i x (by simpa using h)
    rw [List.flatMap_cons, List.drop_append, hc a, List.drop_of_length_le (by rw [hc a, Nat.add_mul]; omega), List.nil_append, show (i + 1) * k - k = i * k by rw [Nat.add_mul]; omega]
    exact ih
theorem flat_set (hc : ∀ x, (c x).length = k) : ∀ (X : TR) (i : Nat) (y : Int × PT), i < X.length → (X.set i y).flatMap c = splice (X.flatMap c) (i * k) (c y)
  | [], i, y, h => by simp at h
  | a :: X, 0, y, h => by
    unfold splice
    rw [List.set_cons_zero, List.flatMap_cons, List.flatMap_cons, Nat.zero_mul, List.take_zero, Nat.zero_add, hc y, List.nil_append, ← hc a, List.drop_left]
  | a :: X, i + 1, y, h => by
    have ih := flat_set hc X i y (by simpa using h)
    unfold splice at ih ⊢
    have e : (i + 1) * k = k + i * k := by rw [Nat.add_mul]; omega
    rw [List.set_cons_succ, List.flatMap_cons, List.flatMap_cons, ih, e, List.take_append, List.drop_append, hc a, List.take_of_length_le (l := c a) (by rw [hc a]; omega), List.drop_eq_nil_of_le (show (c a).length ≤ k + i * k + (c y).length by rw [hc a]; omega), show k + i * k - k = i * k by omega, show k + i * k + (c y).length - k = i * k + (c y).length by omega]
    simp

def ColX (w : World) (t : TypeId) (k : Nat) (c : Int × PT → List Value) (v : Value) (X : TR) : Prop := w.ownsRow 0 t k v X.length (X.flatMap c)
theorem ColX.nil (w : World) (t : TypeId) (k : Nat) (c : Int × PT → List Value) : ColX w t k c (.slice none 0 0) [] := World.ownsRow_nil _ _ _ _
theorem ColX.open_ {w : World} {t : TypeId} {v : Value} {X : TR} (h : ColX w t k c v X) (hX : 0 < X.length) :
    ∃ g cap cur, v = .slice (some ⟨g, 0, none⟩) X.length cap ∧ Blk w g t (List.toArray cur) ∧ X.length ≤ cap ∧ cap ≤ maxLen ∧ cur.length = cap * k ∧ cur.take (X.length * k) = X.flatMap c := by
  rcases h.2 with ⟨_, h0⟩ | ⟨g, cap, cur, hv, _, hg, hn, hm, hs, ht⟩
  · omega
  · exact ⟨g, cap, cur.toList, hv, by simpa [Blk] using hg, hn, hm, by simpa using hs, ht⟩
theorem ColX.close {w : World} {t : TypeId} {X : TR} {g cap : Nat} {cur : List Value} (hc : ∀ x, (c x).length = k) (hb : Blk w g t cur.toArray) (hn : X.length ≤ cap) (hm : cap ≤ maxLen) (hs : cur.length = cap * k) (ht : cur.take (X.length * k) = X.flatMap c) : ColX w t k c (.slice (some ⟨g, 0, none⟩) X.length cap) X :=
  ⟨flat_len hc X, Or.inr ⟨g, cap, cur.toArray, rfl, Nat.zero_le _, hb, hn, hm, by simpa using hs, by simpa using ht⟩⟩
theorem ColX.form {w : World} {t : TypeId} {v : Value} {X : TR} (h : ColX w t k c v X) : ∃ a cap, v = .slice a X.length cap ∧ X.length ≤ cap ∧ cap ≤ maxLen := by
  rcases h.2 with ⟨hv, h0⟩ | ⟨g, cap, cur, hv, _, hg, hn, hm, hs, ht⟩
  · exact ⟨none, 0, by rw [h0]; exact hv, by omega, by unfold maxLen; omega⟩
  · exact ⟨_, cap, hv, hn, hm⟩
theorem ColX.range {w : World} {t : TypeId} {X : TR} {g n cap : Nat} (hc : ∀ x, (c x).length = k) (h : ColX w t k c (.slice (some ⟨g, 0, none⟩) n cap) X) {i : Nat} {x : Int × PT} (hi : X[i]? = some x) : w.rangeAt g (i * k) (c x) := by
  have hlt : i < X.length := (List.getElem?_eq_some_iff.1 hi).1
  obtain ⟨g', cap', cur, hv, hb, hn, hm, hs, ht⟩ := h.open_ (by omega)
  injection hv with h1 h2 h3
  injection h1 with h1
  injection h1 with h1
  subst h1
  have := blk_range hb (i * k) k
  have e : (cur.drop (i * k)).take k = c x := by
    rw [← flat_at hc X i x hi, ← ht, List.drop_take, List.take_take, Nat.min_eq_left]
    have : (i + 1) * k ≤ X.length * k := Nat.mul_le_mul_right _ hlt
    rw [Nat.add_mul] at this
    omega
  rwa [e] at this
theorem ColX.blk {w : World} {t : TypeId} {X : TR} {g n cap : Nat} (h : ColX w t k c (.slice (some ⟨g, 0, none⟩) n cap) X) (hX : 0 < X.length) : ∃ cur, Blk w g t (List.toArray cur) ∧ X.length * k ≤ cur.length ∧ X.length = n ∧ X.length ≤ cap ∧ cap ≤ maxLen ∧ cur.length = cap * k ∧ cur.take (X.length * k) = X.flatMap c := by
  obtain ⟨g', cap', cur, hv, hb, hn, hm, hs, ht⟩ := h.open_ hX
  injection hv with h1 h2 h3
  injection h1 with h1
  injection h1 with h1
  subst h1
  subst h3
  exact ⟨cur, hb, by rw [hs]; exact Nat.mul_le_mul_right _ hn, h2.symm, hn, hm, hs, ht⟩
theorem splice_take {A vs : List Value} {o n : Nat} (h : o + vs.length ≤ n) (hn : n ≤ A.length) : (splice A o vs).take n = splice (A.take n) o vs := by
  unfold splice
  rw [List.take_append, List.take_append, List.take_take, List.drop_take, List.length_append, List.length_take, Nat.min_eq_left (show o ≤ A.length by omega), List.take_take, Nat.min_eq_right (show o ≤ n by omega), Nat.min_eq_left (show o ≤ n by omega), List.take_of_length_le (show vs.length ≤ n - o by omega)]
theorem ColX.there {w : World} {t : TypeId} {X : TR} {g n cap : Nat} (h : ColX w t k c (.slice (some ⟨g, 0, none⟩) n cap) X) {i : Nat} (hi : i < X.length) : w.there g (i * k) k := by
  obtain ⟨cur, hb, hl, _⟩ := h.blk (by omega)
  refine blk_there hb ?_
  have : (i + 1) * k ≤ X.length * k := Nat.mul_le_mul_right _ hi
  rw [Nat.add_mul] at this
  omega
theorem ColX.set_ {w : World} {t : TypeId} {X : TR} {g n cap : Nat} (hc : ∀ x, (c x).length = k) (h : ColX w t k c (.slice (some ⟨g, 0, none⟩) n cap) X) {i : Nat} (hi : i < X.length) (y : Int × PT) : ColX (w.setCells g (i * k) (c y)) t k c (.slice (some ⟨g, 0, none⟩) n cap) (X.set i y) := by
  obtain ⟨cur, hb, hl, hn, hcap, hm, hs, ht⟩ := h.blk (by omega)
  have h1 : (i + 1) * k ≤ X.length * k := Nat.mul_le_mul_right _ hi
  rw [Nat.add_mul] at h1
  have hb' := blk_setCells (c y) (o := i * k) hb (by rw [hc]; omega)
  subst hn
  have := ColX.close (X := X.set i y) (cap := cap) hc hb' (by rw [List.length_set]; exact hcap) hm (by rw [splice_len (by rw [hc]; omega)]; exact hs) (by rw [List.length_set, splice_take (by rw [hc]; omega) hl, ht, flat_set hc X i y hi])
  rw [List.length_set] at this
  exact this
theorem ColX.take_ {w : World} {t : TypeId} {X : TR} {g n cap : Nat} (hc : ∀ x, (c x).length = k) (h : ColX w t k c (.slice (some ⟨g, 0, none⟩) n cap) X) (hX : 0 < X.length) {m : Nat} (hm' : m ≤ X.length) : ColX w t k c (.slice (some ⟨g, 0, none⟩) m cap) (X.take m) := by
  obtain ⟨cur, hb, hl, hn, hcap, hm, hs, ht⟩ := h.blk hX
  have e : (X.take m).length = m := by rw [List.length_take]; omega
  have := ColX.close (X := X.take m) (cap := cap) hc hb (by rw [e]; omega) hm hs (by rw [e, flat_take hc X m hm', ← ht, List.take_take, Nat.min_eq_left (Nat.mul_le_mul_right _ hm')])
  rw [e] at this
  exact this
theorem ColX.kept {w w' : World} {t : TypeId} {v : Value} {X : TR} {row : Option Nat} (h : ColX w t k c v X) (hg : w.grownBy w' row) (hne : v.ownBlock = none ∨ v.ownBlock ≠ row) : ColX w' t k c v X := World.ownsRow.kept h hg hne
theorem ColX.same {w w' : World} {t : TypeId} {v : Value} {X : TR} (h : ColX w t k c v X) (he : ∀ b, v.ownBlock = some b → w'.heap[b]? = w.heap[b]?) : ColX w' t k c v X := by
  refine ⟨h.1, ?_⟩
  rcases h.2 with hn | ⟨g, cap, cur, rfl, hb, hgg, rest⟩
  · exact .inl hn
  · exact .inr ⟨g, cap, cur, rfl, hb, by rw [he g rfl]; exact hgg, rest⟩
theorem grown_sets : ∀ (vs : List Value) (w : World) (g o : Nat), w.grownBy (w.setCells g o vs) (some g)
  | [], w, g, o => ⟨rfl, rfl, rfl, Nat.le_refl _, fun _ _ _ => rfl⟩
  | v :: vs, w, g, o => by
    have h1 : w.grownBy (w.setCell ⟨g, o, none⟩ v) (some g) := ⟨rfl, rfl, rfl, by simp [World.setCell], fun j _ hne => by simp [World.setCell, Array.getElem?_modify]; intro e; exact absurd (by rw [e]) hne⟩
    have h2 := grown_sets vs (w.setCell ⟨g, o, none⟩ v) g (o + 1)
    exact ⟨h2.os.trans h1.os, h2.tape.trans h1.tape, h2.output.trans h1.output, Nat.le_trans h1.size h2.size, fun i hi hne => (h2.block i (Nat.lt_of_lt_of_le hi h1.size) hne).trans (h1.block i hi hne)⟩

end Go.Proofs.YtkondkajpmafkaaGreat
