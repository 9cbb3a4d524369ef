/-
  Tables as lists of rows; what the calls of package table are to answer, as one bundle; as a set: plain arithmetic.
-/
import Derived.Test.YtpobnmcjmclgbaaPrtR
namespace Go.Proofs.Ytpobnmcjmclgbaa
open Go.RowKit

abbrev TR := List (Int × PT)
def d0 : Int × PT := (0, zT)
def hasId (R : TR) (id : Int) : Bool := R.any fun r => r.1 == id
def findI (R : TR) (id : Int) : Int := match R.findIdx? (fun r => r.1 == id) with | some i => (i : Int) | none => -1
def fitsB (s : Int) (P : PT) : Bool := rightT P && (P.1 == s)
def inR (R : TR) (row : Int) : Bool := decide (0 ≤ row) && decide (row < (R.length : Int))
def tadE (s : Int) (R : TR) (id : Int) (P : PT) : Int := if fitsB s P then (if hasId R id then 5 else 0) else 1
def tadN (s : Int) (R : TR) (id : Int) (P : PT) : Int := if tadE s R id P = 0 then (R.length : Int) else 0
def tadR (s : Int) (R : TR) (id : Int) (P : PT) : TR := if tadE s R id P = 0 then R ++ [(id, P)] else R
def tpuE (s : Int) (R : TR) (row : Int) (P : PT) : Int := if fitsB s P then (if inR R row then 0 else 4) else 1
def tpuR (s : Int) (R : TR) (row : Int) (P : PT) : TR := if tpuE s R row P = 0 then R.set row.toNat ((R.getD row.toNat d0).1, P) else R
def tcuE (R : TR) (row : Int) : Int := if inR R row then 0 else 4
def tcuV (R : TR) (row : Int) : Int := if inR R row then (if row + 1 < (R.length : Int) then (R.getD (R.length - 1) d0).1 else -1) else -1
def tcuR (R : TR) (row : Int) : TR := if inR R row then (R.set row.toNat (R.getD (R.length - 1) d0)).take (R.length - 1) else R
/-- all else stays, but for the blocks of L -/
def Fr (w w' : World) (L : Nat → Prop) : Prop := w'.os = w.os ∧ w'.tape = w.tape ∧ w'.output = w.output ∧ w.heap.size ≤ w'.heap.size ∧ ∀ b, b < w.heap.size → ¬ L b → w'.heap[b]? = w.heap[b]?

/-- what the calls of package table answer; TB w g L s R: at g lies a table of set s with rows R, whose memory are the blocks of L -/
def TC (TB : World → Nat → (Nat → Prop) → Int → TR → Prop) : Prop :=
  (∀ w w' g L s R, TB w g L s R → (∀ b, L b → w'.heap[b]? = w.heap[b]?) → TB w' g L s R) ∧
  (∀ w g L s R, TB w g L s R → ∀ b, L b → b < w.heap.size) ∧
  (∀ (w : World) (s : Int), 0 ≤ s ∧ s ≤ 31 → Calls Try.prog 4 #[.int .i64 s] w fun e w' => ∃ g L, e = .returned (.tuple #[.pointer (some ⟨g, 0, none⟩), .int .i64 0]) ∧ TB w' g L s [] ∧ (∀ b, L b → w.heap.size ≤ b) ∧ Below w.heap.size w w') ∧
  (∀ (w : World) g L s R (id : Int) (P : PT), R.length ≤ 1000 → TB w g L s R → Calls Try.prog 12 #[.pointer (some ⟨g, 0, none⟩), .int .i64 id, .agg (pl P).toArray] w fun e w' => ∃ L', e = .returned (.tuple #[.int .i64 (tadN s R id P), .int .i64 (tadE s R id P)]) ∧ TB w' g L' s (tadR s R id P) ∧ Fr w w' L ∧ ∀ b, L' b → L b ∨ w.heap.size ≤ b) ∧
  (∀ (w : World) g L s R (row : Int) (P : PT), R.length ≤ 1000 → TB w g L s R → Calls Try.prog 16 #[.pointer (some ⟨g, 0, none⟩), .int .i64 row, .agg (pl P).toArray] w fun e w' => ∃ L', e = .returned (.int .i64 (tpuE s R row P)) ∧ TB w' g L' s (tpuR s R row P) ∧ Fr w w' L ∧ ∀ b, L' b → L b ∨ w.heap.size ≤ b) ∧
  (∀ (w : World) g L s R (row : Int), R.length ≤ 1000 → TB w g L s R → Calls Try.prog 13 #[.pointer (some ⟨g, 0, none⟩), .int .i64 row] w fun e w' => ∃ L', e = .returned (.tuple #[.int .i64 (tcuV R row), .int .i64 (tcuE R row)]) ∧ TB w' g L' s (tcuR R row) ∧ Fr w w' L ∧ ∀ b, L' b → L b ∨ w.heap.size ≤ b) ∧
  (∀ (w : World) g L s R (row : Int), R.length ≤ 1000 → TB w g L s R → Calls Try.prog 6 #[.pointer (some ⟨g, 0, none⟩), .int .i64 row] w fun e w' => ∃ (x : Int) (P : PT), e = .returned (.tuple #[.int .i64 x, .agg (pl P).toArray, .bool (inR R row)]) ∧ (inR R row = true → (x, P) = R.getD row.toNat d0) ∧ Below w.heap.size w w') ∧
  (∀ (w : World) g L s R (id : Int), R.length ≤ 1000 → TB w g L s R → Calls Try.prog 8 #[.pointer (some ⟨g, 0, none⟩), .int .i64 id] w fun e w' => e = .returned (.int .i64 (findI R id)) ∧ Below w.heap.size w w') ∧
  (∀ (w : World) g L s R, R.length ≤ 1000 → TB w g L s R → Calls Try.prog 10 #[.pointer (some ⟨g, 0, none⟩)] w fun e w' => e = .returned (.int .i64 (R.length : Int)) ∧ Below w.heap.size w w')

theorem Fr.below {B : Nat} {w0 w w' : World} {L : Nat → Prop} (h : Fr w w' L) (hb : Below B w0 w) (hL : ∀ b, L b → B ≤ b) (hs : B ≤ w.heap.size) : Below B w0 w' :=
  ⟨h.1.trans hb.os, h.2.1.trans hb.tape, h.2.2.1.trans hb.output, Nat.le_trans hb.size h.2.2.2.1, fun k hk => (h.2.2.2.2 k (by omega) (fun c => by have := hL k c; omega)).trans (hb.block k hk)⟩

/-! acts -/
def actE (s : Int) (R : TR) (k id : Int) (P : PT) (row : Int) : Int := if k = 2 then tpuE s R row P else if k = 3 then tcuE R row else tadE s R id P
def actN (s : Int) (R : TR) (k id : Int) (P : PT) (row : Int) : Int := if k = 2 then 0 else if k = 3 then tcuV R row else tadN s R id P
def actR (s : Int) (R : TR) (k id : Int) (P : PT) (row : Int) : TR := if k = 2 then tpuR s R row P else if k = 3 then tcuR R row else tadR s R id P
theorem act_bad {s : Int} {R : TR} {k id : Int} {P : PT} {row : Int} (h : actE s R k id P row ≠ 0) : actR s R k id P row = R := by
  unfold actE at h
  unfold actR
  by_cases c2 : k = 2
  · rw [if_pos c2] at h ⊢; unfold tpuR; rw [if_neg h]
  · rw [if_neg c2] at h ⊢
    by_cases c3 : k = 3
    · rw [if_pos c3] at h ⊢
      unfold tcuE at h
      unfold tcuR
      by_cases i : inR R row = true
      · rw [if_pos i] at h; exact absurd rfl h
      · rw [if_neg i]
    · rw [if_neg c3] at h ⊢; unfold tadR; rw [if_neg h]
theorem act_len (s : Int) (R : TR) (k id : Int) (P : PT) (row : Int) : (actR s R k id P row).length ≤ R.length + 1 := by
  unfold actR tpuR tcuR tadR
  split
  · split
    · rw [List.length_set]; omega
    · omega
  · split
    · split
      · rw [List.length_take, List.length_set]; omega
      · omega
    · split
      · rw [List.length_append]; simp
      · omega

/-! as a set -/
def nx1 (is : Bool) (y k : Int) (P : PT) (x : Int × PT) : Int × PT := if is && (x.1 == y) && (k == 2) then (x.1, P) else x
def nxK (is : Bool) (y k : Int) (x : Int × PT) : Bool := !is || (x.1 != y) || (k != 3)
def nxL (is : Bool) (y k : Int) (P : PT) (T : TR) : TR := (T.filter (nxK is y k)).map (nx1 is y k P)
theorem nxL_nil (is : Bool) (y k : Int) (P : PT) : nxL is y k P [] = [] := rfl
theorem nxL_snoc (is : Bool) (y k : Int) (P : PT) (T : TR) (x : Int × PT) : nxL is y k P (T ++ [x]) = nxL is y k P T ++ (if nxK is y k x then [nx1 is y k P x] else []) := by
  unfold nxL
  rw [List.filter_append, List.map_append]
  congr 1
  by_cases c : nxK is y k x = true
  · rw [if_pos c]; simp [c]
  · rw [if_neg c]; simp [Bool.eq_false_iff.2 c]
theorem nxL_len (is : Bool) (y k : Int) (P : PT) (T : TR) : (nxL is y k P T).length ≤ T.length := by
  unfold nxL; rw [List.length_map]; exact List.length_filter_le _ _
def Inv (s : Int) (R T : TR) : Prop := T.Perm R ∧ (R.map Prod.fst).Nodup ∧ ∀ x ∈ R, fitsB s x.2 = true
theorem inv_nil (s : Int) : Inv s [] [] := ⟨List.Perm.nil, List.nodup_nil, fun x hx => by cases hx⟩
theorem inR_spec {R : TR} {row : Int} (h : inR R row = true) : ∃ (i : Nat) (hi : i < R.length), row = (i : Int) ∧ R.getD row.toNat d0 = R[i] := by
  unfold inR at h
  rw [Bool.and_eq_true, decide_eq_true_eq, decide_eq_true_eq] at h
  refine ⟨row.toNat, by omega, by omega, ?_⟩
  simp [List.getD, List.getElem?_eq_getElem (show row.toNat < R.length by omega)]
theorem nodup_at {R : TR} (h : (R.map Prod.fst).Nodup) {i j : Nat} (hi : i < R.length) (hj : j < R.length) (e : R[i].1 = R[j].1) : i = j := by
  have hp := List.pairwise_iff_getElem.1 h
  rcases Nat.lt_trichotomy i j with c | c | c
  · exact absurd (by rw [List.getElem_map, List.getElem_map]; exact e) (hp i j (by simpa using hi) (by simpa using hj) c)
  · exact c
  · exact absurd (by rw [List.getElem_map, List.getElem_map]; exact e.symm) (hp j i (by simpa using hj) (by simpa using hi) c)
/-- a row put is a map by its name -/
theorem set_map {R : TR} (h : (R.map Prod.fst).Nodup) {i : Nat} (hi : i < R.length) (P : PT) : R.map (fun x => if x.1 == R[i].1 then (x.1, P) else x) = R.set i (R[i].1, P) := by
  refine List.ext_getElem (by simp) (fun j h1 h2 => ?_)
  have hj : j < R.length := by simpa using h1
  rw [List.getElem_map, List.getElem_set]
  by_cases c : i = j
  · subst c; simp
  · rw [if_neg c, if_neg (by intro e; exact c (nodup_at h hi hj (by simpa using (beq_iff_eq.1 e).symm)))]
/-- a row cut is a filter by its name -/
theorem filter_erase : ∀ (R : TR) (i : Nat) (hi : i < R.length), (R.map Prod.fst).Nodup → (R.filter fun x => x.1 != (R[i]'hi).1) = R.eraseIdx i
  | [], i, hi, _ => by cases hi
  | a :: r, 0, _, h => by
    rw [List.map_cons, List.nodup_cons] at h
    have : (r.filter fun x => x.1 != a.1) = r := List.filter_eq_self.2 (fun x hx => by
      simp only [bne_iff_ne, ne_eq]
      intro e
      exact h.1 (List.mem_map.2 ⟨x, hx, e⟩))
    simp [this]
  | a :: r, i + 1, hi, h => by
    rw [List.map_cons, List.nodup_cons] at h
    have hi' : i < r.length := by simpa using hi
    have ih := filter_erase r i hi' h.2
    have hne : (a.1 != (r[i]'hi').1) = true := by
      simp only [bne_iff_ne, ne_eq]
      intro e
      exact h.1 (List.mem_map.2 ⟨_, List.getElem_mem hi', e.symm⟩)
    show List.filter (fun x => x.1 != (r[i]'hi').1) (a :: r) = a :: r.eraseIdx i
    rw [List.filter_cons, if_pos hne, ih]
theorem set_erase : ∀ (l : TR) (i : Nat) (a : Int × PT), i < l.length → (l.set i a).Perm (a :: l.eraseIdx i)
  | [], _, _, h => by cases h
  | x :: r, 0, a, _ => List.Perm.refl _
  | x :: r, i + 1, a, h => ((set_erase r i a (by simpa using h)).cons x).trans (List.Perm.swap a x _)
theorem cut_perm (D : TR) (z : Int × PT) (i : Nat) (hi : i < D.length + 1) : ((D ++ [z]).eraseIdx i).Perm (((D ++ [z]).set i z).take D.length) := by
  by_cases c : i < D.length
  · rw [List.eraseIdx_append_of_lt_length c, List.set_append_left _ _ c, List.take_append_of_le_length (by rw [List.length_set]; exact Nat.le_refl _), List.take_of_length_le (by rw [List.length_set]; exact Nat.le_refl _)]
    exact (List.perm_append_singleton _ _).trans (set_erase D i z c).symm
  · have : i = D.length := by omega
    subst this
    rw [List.eraseIdx_append_of_length_le (Nat.le_refl _), List.set_append_right _ _ (Nat.le_refl _), List.take_append_of_le_length (Nat.le_refl _), List.take_of_length_le (Nat.le_refl _)]
    simp
theorem cut_filter {R : TR} (h : (R.map Prod.fst).Nodup) {i : Nat} (hi : i < R.length) : (R.filter fun x => x.1 != R[i].1).Perm ((R.set i (R.getD (R.length - 1) d0)).take (R.length - 1)) := by
  rw [filter_erase R i hi h]
  clear h
  have hn : R ≠ [] := by intro e; rw [e] at hi; cases hi
  obtain ⟨D, z, rfl⟩ : ∃ D z, R = D ++ [z] := ⟨R.dropLast, R.getLast hn, (List.dropLast_concat_getLast hn).symm⟩
  have e1 : (D ++ [z]).length - 1 = D.length := by simp
  have e2 : (D ++ [z]).getD D.length d0 = z := by simp [List.getD]
  rw [e1, e2]
  exact cut_perm D z i (by simpa using hi)

end Go.Proofs.Ytpobnmcjmclgbaa
