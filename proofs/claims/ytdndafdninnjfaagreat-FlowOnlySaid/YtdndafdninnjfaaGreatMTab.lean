/-
  3 texts in one file, each with its own heading.
-/
import Derived.Test.YtdndafdninnjfaaGreatMPrt
/-
  Tables as lists of rows; what the calls of package table are to answer, as one bundle; as a set: plain arithmetic.
-/
namespace Go.Proofs.YtdndafdninnjfaaGreat
open Go.RowKit

abbrev TR := List (Int × PT)
def d0 : Int × PT := (0, zT)
def hasId (R : TR) (id : Int) : Bool := R.any fun r => r.1 == id
def findI (R : TR) (id : Int) : Int := match R.findIdx? (fun r => r.1 == id) with | some i => (i : Int) | none => -1
def fitsB (s : Int) (P : PT) : Bool := rightT P && (P.1 == s)
def inR (R : TR) (row : Int) : Bool := decide (0 ≤ row) && decide (row < (R.length : Int))
def tadE (s : Int) (R : TR) (id : Int) (P : PT) : Int := if fitsB s P then (if hasId R id then 5 else 0) else 1
def tadR (s : Int) (R : TR) (id : Int) (P : PT) : TR := if tadE s R id P = 0 then R ++ [(id, P)] else R
def tpuE (s : Int) (R : TR) (row : Int) (P : PT) : Int := if fitsB s P then (if inR R row then 0 else 4) else 1
def tpuR (s : Int) (R : TR) (row : Int) (P : PT) : TR := if tpuE s R row P = 0 then R.set row.toNat ((R.getD row.toNat d0).1, P) else R
def tcuR (R : TR) (row : Int) : TR := if inR R row then (R.set row.toNat (R.getD (R.length - 1) d0)).take (R.length - 1) else R
/-- all else stays, but for the blocks of L -/
def Fr (w w' : World) (L : Nat → Prop) : Prop := w'.os = w.os ∧ w'.tape = w.tape ∧ w'.output = w.output ∧ w.heap.size ≤ w'.heap.size ∧ ∀ b, b < w.heap.size → ¬ L b → w'.heap[b]? = w.heap[b]?

theorem Fr.below {B : Nat} {w0 w w' : World} {L : Nat → Prop} (h : Fr w w' L) (hb : Below B w0 w) (hL : ∀ b, L b → B ≤ b) (hs : B ≤ w.heap.size) : Below B w0 w' :=
  ⟨h.1.trans hb.os, h.2.1.trans hb.tape, h.2.2.1.trans hb.output, Nat.le_trans hb.size h.2.2.2.1, fun k hk => (h.2.2.2.2 k (by omega) (fun c => by have := hL k c; omega)).trans (hb.block k hk)⟩

/-! acts -/
/-! as a set -/
theorem inR_spec {R : TR} {row : Int} (h : inR R row = true) : ∃ (i : Nat) (hi : i < R.length), row = (i : Int) ∧ R.getD row.toNat d0 = R[i] := by
  unfold inR at h
  rw [Bool.and_eq_true, decide_eq_true_eq, decide_eq_true_eq] at h
  refine ⟨row.toNat, by omega, by omega, ?_⟩
  simp [List.getD, List.getElem?_eq_getElem (show row.toNat < R.length by omega)]
theorem nodup_at {R : TR} (h : (R.map Prod.fst).Nodup) {i j : Nat} (hi : i < R.length) (hj : j < R.length) (e : R[i].1 = R[j].1) : i = j := by
  have hp := List.pairwise_iff_getElem.1 h
  rcases Nat.lt_trichotomy i j with c | c | c
  · exact absurd (by rw [List.getElem_map, List.getElem_map]; exact e) (hp i j (by simpa using hi) (by simpa using hj) c)
  · exact c
  · exact absurd (by rw [List.getElem_map, List.getElem_map]; exact e.symm) (hp j i (by simpa using hj) (by simpa using hi) c)
/-- a row put is a map by its name -/
theorem set_map {R : TR} (h : (R.map Prod.fst).Nodup) {i : Nat} (hi : i < R.length) (P : PT) : R.map (fun x => if x.1 == R[i].1 then (x.1, P) else x) = R.set i (R[i].1, P) := by
  refine List.ext_getElem (by simp) (fun j h1 h2 => ?_)
  have hj : j < R.length := by simpa using h1
  rw [List.getElem_map, List.getElem_set]
  by_cases c : i = j
  · subst c; simp
  · rw [if_neg c, if_neg (by intro e; exact c (nodup_at h hi hj (by simpa using (beq_iff_eq.1 e).symm)))]
/-- a row cut is a filter by its name -/
theorem filter_erase : ∀ (R : TR) (i : Nat) (hi : i < R.length), (R.map Prod.fst).Nodup → (R.filter fun x => x.1 != (R[i]'hi).1) = R.eraseIdx i
  | [], i, hi, _ => by cases hi
  | a :: r, 0, _, h => by
    rw [List.map_cons, List.nodup_cons] at h
    have : (r.filter fun x => x.1 != a.1) = r := List.filter_eq_self.2 (fun x hx => by
      simp only [bne_iff_ne, ne_eq]
      intro e
      exact h.1 (List.mem_map.2 ⟨x, hx, e⟩))
    simp [this]
  | a :: r, i + 1, hi, h => by
    rw [List.map_cons, List.nodup_cons] at h
    have hi' : i < r.length := by simpa using hi
    have ih := filter_erase r i hi' h.2
    have hne : (a.1 != (r[i]'hi').1) = true := by
      simp only [bne_iff_ne, ne_eq]
      intro e
      exact h.1 (List.mem_map.2 ⟨_, List.getElem_mem hi', e.symm⟩)
    show List.filter (fun x => x.1 != (r[i]'hi').1) (a :: r) = a :: r.eraseIdx i
    rw [List.filter_cons, if_pos hne, ih]
theorem set_erase : ∀ (l : TR) (i : Nat) (a : Int × PT), i < l.length → (l.set i a).Perm (a :: l.eraseIdx i)
  | [], _, _, h => by cases h
  | x :: r, 0, a, _ => List.Perm.refl _
  | x :: r, i + 1, a, h => ((set_erase r i a (by simpa using h)).cons x).trans (List.Perm.swap a x _)
theorem cut_perm (D : TR) (z : Int × PT) (i : Nat) (hi : i < D.length + 1) : ((D ++ [z]).eraseIdx i).Perm (((D ++ [z]).set i z).take D.length) := by
  by_cases c : i < D.length
  · rw [List.eraseIdx_append_of_lt_length c, List.set_append_left _ _ c, List.take_append_of_le_length (by rw [List.length_set]; exact Nat.le_refl _), List.take_of_length_le (by rw [List.length_set]; exact Nat.le_refl _)]
    exact (List.perm_append_singleton _ _).trans (set_erase D i z c).symm
  · have : i = D.length := by omega
    subst this
    rw [List.eraseIdx_append_of_length_le (Nat.le_refl _), List.set_append_right _ _ (Nat.le_refl _), List.take_append_of_le_length (Nat.le_refl _), List.take_of_length_le (Nat.le_refl _)]
    simp
theorem cut_filter {R : TR} (h : (R.map Prod.fst).Nodup) {i : Nat} (hi : i < R.length) : (R.filter fun x => x.1 != R[i].1).Perm ((R.set i (R.getD (R.length - 1) d0)).take (R.length - 1)) := by
  rw [filter_erase R i hi h]
  clear h
  have hn : R ≠ [] := by intro e; rw [e] at hi; cases hi
  obtain ⟨D, z, rfl⟩ : ∃ D z, R = D ++ [z] := ⟨R.dropLast, R.getLast hn, (List.dropLast_concat_getLast hn).symm⟩
  have e1 : (D ++ [z]).length - 1 = D.length := by simp
  have e2 : (D ++ [z]).getD D.length d0 = z := by simp [List.getD]
  rw [e1, e2]
  exact cut_perm D z i (by simpa using hi)

end Go.Proofs.YtdndafdninnjfaaGreat
/-
  Tables as a set: a step of the law keeps the rows; rows and acts in memory.
-/
namespace Go.Proofs.YtdndafdninnjfaaGreat
open Go.RowKit

/-- a row that is there is found -/
theorem find_mem {R : TR} (h : (R.map Prod.fst).Nodup) {x : Int × PT} (hx : x ∈ R) : inR R (findI R x.1) = true ∧ R.getD (findI R x.1).toNat d0 = x := by
  obtain ⟨i, hi, rfl⟩ := List.getElem_of_mem hx
  have e : R.findIdx? (fun r => r.1 == R[i].1) = some i := by
    rw [List.findIdx?_eq_some_iff_getElem]
    refine ⟨hi, by simp, fun j hj => ?_⟩
    intro c
    have := nodup_at h (i := j) (j := i) (by omega) hi (beq_iff_eq.1 c)
    omega
  have e2 : findI R R[i].1 = (i : Int) := by unfold findI; rw [e]
  rw [e2]
  refine ⟨by unfold inR; simp [hi], ?_⟩
  simp [List.getD, List.getElem?_eq_getElem hi]

/-! rows in memory -/
def rcells (x : Int × PT) : List Value := .int .i64 x.1 :: pl x.2
theorem rcells_len (x : Int × PT) : (rcells x).length = 25 := rfl
def flatR (T : TR) : List Value := T.flatMap rcells
theorem flatR_at : ∀ (T : TR) (i : Nat) (x : Int × PT), T[i]? = some x → ((flatR T).drop (i * 25)).take 25 = rcells x
  | [], i, x, h => by simp at h
  | y :: r, 0, x, h => by
    have : y = x := by simpa using h
    subst this
    unfold flatR
    rw [List.flatMap_cons, Nat.zero_mul, List.drop_zero, List.take_append_of_le_length (by rw [rcells_len]; omega), List.take_of_length_le (by rw [rcells_len]; omega)]
  | y :: r, i + 1, x, h => by
    have ih := flatR_at r i x (by simpa using h)
    have e : flatR (y :: r) = rcells y ++ flatR r := by unfold flatR; rw [List.flatMap_cons]
    rw [e, show (i + 1) * 25 = (rcells y).length + i * 25 by rw [rcells_len]; omega, List.drop_append]
    simp [List.drop_of_length_le, ih]
/-- a slice that reads as rows, in a block of its own -/
def RRow (w : World) (a : Option Addr) (n : Nat) (T : TR) : Prop := T.length = n ∧ (n = 0 ∨ ∃ b, a = some ⟨b, 0, none⟩ ∧ b < w.heap.size ∧ w.rangeAt b 0 (flatR T))
theorem RRow.at_ {w : World} {a : Option Addr} {n : Nat} {T : TR} (h : RRow w a n T) {i : Nat} (hi : i < n) : ∃ b x, a = some ⟨b, 0, none⟩ ∧ T[i]? = some x ∧ w.rangeAt b (i * 25) (rcells x) := by
  rcases h.2 with h0 | ⟨b, rfl, hb, hr⟩
  · omega
  · have hi' : i < T.length := by rw [h.1]; exact hi
    refine ⟨b, T[i], rfl, List.getElem?_eq_getElem hi', ?_⟩
    rw [← flatR_at T i T[i] (List.getElem?_eq_getElem hi')]
    intro j v hv
    rw [List.getElem?_take] at hv
    by_cases c : j < 25
    · rw [if_pos c, List.getElem?_drop] at hv
      have := hr (i * 25 + j) v hv
      rwa [Nat.zero_add] at this
    · rw [if_neg c] at hv; cases hv
theorem range_same {w w' : World} {b o : Nat} {cs : List Value} (h : w.rangeAt b o cs) (e : w'.heap[b]? = w.heap[b]?) : w'.rangeAt b o cs := fun j v hv => by
  have := h j v hv
  simp only [World.cell?] at this ⊢
  rw [e]
  exact this
theorem RRow.keep {w w' : World} {a : Option Addr} {n : Nat} {T : TR} (h : RRow w a n T) (hb : Below w.heap.size w w') : RRow w' a n T := ⟨h.1, h.2.imp id (fun ⟨b, e, hl, hr⟩ => ⟨b, e, Nat.lt_of_lt_of_le hl hb.size, range_same hr (hb.block b hl)⟩)⟩
/-- not among these blocks -/
def Away (L : Nat → Prop) (a : Option Addr) (n : Nat) : Prop := n = 0 ∨ ∀ b, a = some ⟨b, 0, none⟩ → ¬ L b
theorem RRow.frame {w w' : World} {a : Option Addr} {n : Nat} {T : TR} {L : Nat → Prop} (h : RRow w a n T) (ha : Away L a n) (hf : Fr w w' L) : RRow w' a n T := by
  refine ⟨h.1, ?_⟩
  rcases h.2 with h0 | ⟨b, e, hl, hr⟩
  · exact .inl h0
  · rcases ha with h0 | ha
    · exact .inl h0
    · exact .inr ⟨b, e, Nat.lt_of_lt_of_le hl hf.2.2.2.1, range_same hr (hf.2.2.2.2 b hl (ha b e))⟩
/-! acts in memory -/
abbrev AT := Int × Int × PT × Int
def acells (x : AT) : List Value := .int .u8 x.1 :: .int .i64 x.2.1 :: (pl x.2.2.1 ++ [.int .i64 x.2.2.2])
def a0 : AT := (0, 0, zT, 0)
/-- a slice of acts that came in -/
def ARow (w : World) (a : Option Addr) (len : Nat) (acts : List AT) : Prop := acts.length = len ∧ len ≤ 9223372036854775807 ∧ (len = 0 ∨ ∃ b off, a = some ⟨b, off, none⟩ ∧ b < w.heap.size ∧ ∀ i, i < len → w.rangeAt b (off + i * 27) (acells (acts.getD i a0)) ∧ 0 ≤ (acts.getD i a0).1 ∧ (acts.getD i a0).1 ≤ 255)
theorem ARow.keep {w w' : World} {a : Option Addr} {n : Nat} {T : List AT} (h : ARow w a n T) (hb : Below w.heap.size w w') : ARow w' a n T := ⟨h.1, h.2.1, h.2.2.imp id (fun ⟨b, o, e, hl, hr⟩ => ⟨b, o, e, Nat.lt_of_lt_of_le hl hb.size, fun i hi => ⟨range_same (hr i hi).1 (hb.block b hl), (hr i hi).2⟩⟩)⟩

end Go.Proofs.YtdndafdninnjfaaGreat
/-
  A table as it landed: eight columns, each a slice of its own in a block of its own; what a change of one column leaves.
-/
namespace Go.Proofs.YtdndafdninnjfaaGreat
open Go.RowKit

/-! lists of rows, laid flat -/
variable {c : Int × PT → List Value} {k : Nat}
theorem flat_len (hc : ∀ x, (c x).length = k) : ∀ X : TR, (X.flatMap c).length = X.length * k
  | [] => by simp
  | x :: X => by
    rw [List.flatMap_cons, List.length_append, hc, flat_len hc X, List.length_cons, Nat.add_mul]
    omega
theorem flat_at (hc : ∀ x, (c x).length = k) : ∀ (X : TR) (i : Nat) (x : Int × PT), X[i]? = some x → ((X.flatMap c).drop (i * k)).take k = c x
  | [], i, x, h => by simp at h
  | a :: X, 0, x, h => by
    simp at h
    subst h
    rw [List.flatMap_cons, Nat.zero_mul, List.drop_zero, ← hc a, List.take_left]
  | a :: X, i + 1, x, h => by
    have ih := flat_at hc X i x (by simpa using h)
    rw [List.flatMap_cons, List.drop_append, hc a, List.drop_of_length_le (by rw [hc a, Nat.add_mul]; omega), List.nil_append, show (i + 1) * k - k = i * k by rw [Nat.add_mul]; omega]
    exact ih
theorem flat_set (hc : ∀ x, (c x).length = k) : ∀ (X : TR) (i : Nat) (y : Int × PT), i < X.length → (X.set i y).flatMap c = splice (X.flatMap c) (i * k) (c y)
  | [], i, y, h => by simp at h
  | a :: X, 0, y, h => by
    unfold splice
    rw [List.set_cons_zero, List.flatMap_cons, List.flatMap_cons, Nat.zero_mul, List.take_zero, Nat.zero_add, hc y, List.nil_append, ← hc a, List.drop_left]
  | a :: X, i + 1, y, h => by
    have ih := flat_set hc X i y (by simpa using h)
    unfold splice at ih ⊢
    have e : (i + 1) * k = k + i * k := by rw [Nat.add_mul]; omega
    rw [List.set_cons_succ, List.flatMap_cons, List.flatMap_cons, ih, e, List.take_append, List.drop_append, hc a, List.take_of_length_le (l := c a) (by rw [hc a]; omega), List.drop_eq_nil_of_le (show (c a).length ≤ k + i * k + (c y).length by rw [hc a]; omega), show k + i * k - k = i * k by omega, show k + i * k + (c y).length - k = i * k + (c y).length by omega]
    simp

/-! a column: the rows X, laid flat by c (k cells a row), in a block of its own -/
def ColX (w : World) (t : TypeId) (k : Nat) (c : Int × PT → List Value) (v : Value) (X : TR) : Prop := w.ownsRow 0 t k v X.length (X.flatMap c)
theorem ColX.nil (w : World) (t : TypeId) (k : Nat) (c : Int × PT → List Value) : ColX w t k c (.slice none 0 0) [] := World.ownsRow_nil _ _ _ _
theorem ColX.open_ {w : World} {t : TypeId} {v : Value} {X : TR} (h : ColX w t k c v X) (hX : 0 < X.length) :
    ∃ g cap cur, v = .slice (some ⟨g, 0, none⟩) X.length cap ∧ Blk w g t (List.toArray cur) ∧ X.length ≤ cap ∧ cap ≤ maxLen ∧ cur.length = cap * k ∧ cur.take (X.length * k) = X.flatMap c := by
  rcases h.2 with ⟨_, h0⟩ | ⟨g, cap, cur, hv, _, hg, hn, hm, hs, ht⟩
  · omega
  · exact ⟨g, cap, cur.toList, hv, by simpa [Blk] using hg, hn, hm, by simpa using hs, ht⟩
theorem ColX.close {w : World} {t : TypeId} {X : TR} {g cap : Nat} {cur : List Value} (hc : ∀ x, (c x).length = k) (hb : Blk w g t cur.toArray) (hn : X.length ≤ cap) (hm : cap ≤ maxLen) (hs : cur.length = cap * k) (ht : cur.take (X.length * k) = X.flatMap c) : ColX w t k c (.slice (some ⟨g, 0, none⟩) X.length cap) X :=
  ⟨flat_len hc X, Or.inr ⟨g, cap, cur.toArray, rfl, Nat.zero_le _, hb, hn, hm, by simpa using hs, by simpa using ht⟩⟩
/-- what a column looks like to the walk: a slice of so many -/
theorem ColX.form {w : World} {t : TypeId} {v : Value} {X : TR} (h : ColX w t k c v X) : ∃ a cap, v = .slice a X.length cap ∧ X.length ≤ cap ∧ cap ≤ maxLen := by
  rcases h.2 with ⟨hv, h0⟩ | ⟨g, cap, cur, hv, _, hg, hn, hm, hs, ht⟩
  · exact ⟨none, 0, by rw [h0]; exact hv, by omega, by unfold maxLen; omega⟩
  · exact ⟨_, cap, hv, hn, hm⟩
theorem ColX.range {w : World} {t : TypeId} {X : TR} {g n cap : Nat} (hc : ∀ x, (c x).length = k) (h : ColX w t k c (.slice (some ⟨g, 0, none⟩) n cap) X) {i : Nat} {x : Int × PT} (hi : X[i]? = some x) : w.rangeAt g (i * k) (c x) := by
  have hlt : i < X.length := (List.getElem?_eq_some_iff.1 hi).1
  obtain ⟨g', cap', cur, hv, hb, hn, hm, hs, ht⟩ := h.open_ (by omega)
  injection hv with h1 h2 h3
  injection h1 with h1
  injection h1 with h1
  subst h1
  have := blk_range hb (i * k) k
  have e : (cur.drop (i * k)).take k = c x := by
    rw [← flat_at hc X i x hi, ← ht, List.drop_take, List.take_take, Nat.min_eq_left]
    have : (i + 1) * k ≤ X.length * k := Nat.mul_le_mul_right _ hlt
    rw [Nat.add_mul] at this
    omega
  rwa [e] at this
theorem ColX.blk {w : World} {t : TypeId} {X : TR} {g n cap : Nat} (h : ColX w t k c (.slice (some ⟨g, 0, none⟩) n cap) X) (hX : 0 < X.length) : ∃ cur, Blk w g t (List.toArray cur) ∧ X.length * k ≤ cur.length ∧ X.length = n ∧ X.length ≤ cap ∧ cap ≤ maxLen ∧ cur.length = cap * k ∧ cur.take (X.length * k) = X.flatMap c := by
  obtain ⟨g', cap', cur, hv, hb, hn, hm, hs, ht⟩ := h.open_ hX
  injection hv with h1 h2 h3
  injection h1 with h1
  injection h1 with h1
  subst h1
  subst h3
  exact ⟨cur, hb, by rw [hs]; exact Nat.mul_le_mul_right _ hn, h2.symm, hn, hm, hs, ht⟩
theorem splice_take {A vs : List Value} {o n : Nat} (h : o + vs.length ≤ n) (hn : n ≤ A.length) : (splice A o vs).take n = splice (A.take n) o vs := by
  unfold splice
  rw [List.take_append, List.take_append, List.take_take, List.drop_take, List.length_append, List.length_take, Nat.min_eq_left (show o ≤ A.length by omega), List.take_take, Nat.min_eq_right (show o ≤ n by omega), Nat.min_eq_left (show o ≤ n by omega), List.take_of_length_le (show vs.length ≤ n - o by omega)]
theorem ColX.there {w : World} {t : TypeId} {X : TR} {g n cap : Nat} (h : ColX w t k c (.slice (some ⟨g, 0, none⟩) n cap) X) {i : Nat} (hi : i < X.length) : w.there g (i * k) k := by
  obtain ⟨cur, hb, hl, _⟩ := h.blk (by omega)
  refine blk_there hb ?_
  have : (i + 1) * k ≤ X.length * k := Nat.mul_le_mul_right _ hi
  rw [Nat.add_mul] at this
  omega
/-- a row's cells, laid anew -/
theorem ColX.set_ {w : World} {t : TypeId} {X : TR} {g n cap : Nat} (hc : ∀ x, (c x).length = k) (h : ColX w t k c (.slice (some ⟨g, 0, none⟩) n cap) X) {i : Nat} (hi : i < X.length) (y : Int × PT) : ColX (w.setCells g (i * k) (c y)) t k c (.slice (some ⟨g, 0, none⟩) n cap) (X.set i y) := by
  obtain ⟨cur, hb, hl, hn, hcap, hm, hs, ht⟩ := h.blk (by omega)
  have h1 : (i + 1) * k ≤ X.length * k := Nat.mul_le_mul_right _ hi
  rw [Nat.add_mul] at h1
  have hb' := blk_setCells (c y) (o := i * k) hb (by rw [hc]; omega)
  subst hn
  have := ColX.close (X := X.set i y) (cap := cap) hc hb' (by rw [List.length_set]; exact hcap) hm (by rw [splice_len (by rw [hc]; omega)]; exact hs) (by rw [List.length_set, splice_take (by rw [hc]; omega) hl, ht, flat_set hc X i y hi])
  rw [List.length_set] at this
  exact this
theorem ColX.same {w w' : World} {t : TypeId} {v : Value} {X : TR} (h : ColX w t k c v X) (he : ∀ b, v.ownBlock = some b → w'.heap[b]? = w.heap[b]?) : ColX w' t k c v X := by
  refine ⟨h.1, ?_⟩
  rcases h.2 with hn | ⟨g, cap, cur, rfl, hb, hgg, rest⟩
  · exact .inl hn
  · exact .inr ⟨g, cap, cur, rfl, hb, by rw [he g rfl]; exact hgg, rest⟩
theorem grown_sets : ∀ (vs : List Value) (w : World) (g o : Nat), w.grownBy (w.setCells g o vs) (some g)
  | [], w, g, o => ⟨rfl, rfl, rfl, Nat.le_refl _, fun _ _ _ => rfl⟩
  | v :: vs, w, g, o => by
    have h1 : w.grownBy (w.setCell ⟨g, o, none⟩ v) (some g) := ⟨rfl, rfl, rfl, by simp [World.setCell], fun j _ hne => by simp [World.setCell, Array.getElem?_modify]; intro e; exact absurd (by rw [e]) hne⟩
    have h2 := grown_sets vs (w.setCell ⟨g, o, none⟩ v) g (o + 1)
    exact ⟨h2.os.trans h1.os, h2.tape.trans h1.tape, h2.output.trans h1.output, Nat.le_trans h1.size h2.size, fun i hi hne => (h2.block i (Nat.lt_of_lt_of_le hi h1.size) hne).trans (h1.block i hi hne)⟩

end Go.Proofs.YtdndafdninnjfaaGreat
