/-
  A table as it landed: eight columns, each a slice of its own in a block of its own; what a change of one column leaves.
-/
import Derived.Test.YtpobnmcjmclgbaaTabB
namespace Go.Proofs.Ytpobnmcjmclgbaa
open Go.RowKit

/-! lists of rows, laid flat -/
variable {c : Int × PT → List Value} {k : Nat}
theorem flat_len (hc : ∀ x, (c x).length = k) : ∀ X : TR, (X.flatMap c).length = X.length * k
  | [] => by simp
  | x :: X => by
    rw [List.flatMap_cons, List.length_append, hc, flat_len hc X, List.length_cons, Nat.add_mul]
    omega
theorem flat_take (hc : ∀ x, (c x).length = k) : ∀ (X : TR) (n : Nat), n ≤ X.length → (X.take n).flatMap c = (X.flatMap c).take (n * k)
  | X, 0, _ => by simp
  | [], n + 1, h => by simp at h
  | x :: X, n + 1, h => by
    have ih := flat_take hc X n (by rw [List.length_cons] at h; omega)
    rw [List.take_succ_cons, List.flatMap_cons, List.flatMap_cons, ih, List.take_append, hc x, List.take_of_length_le (l := c x) (by rw [hc x, Nat.add_mul]; omega), show (n + 1) * k - k = n * k by rw [Nat.add_mul]; omega]
theorem flat_at (hc : ∀ x, (c x).length = k) : ∀ (X : TR) (i : Nat) (x : Int × PT), X[i]? = some x → ((X.flatMap c).drop (i * k)).take k = c x
  | [], i, x, h => by simp at h
  | a :: X, 0, x, h => by
    simp at h
    subst h
    rw [List.flatMap_cons, Nat.zero_mul, List.drop_zero, ← hc a, List.take_left]
  | a :: X, i + 1, x, h => by
    have ih := flat_at hc X i x (by simpa using h)
    rw [List.flatMap_cons, List.drop_append, hc a, List.drop_of_length_le (by rw [hc a, Nat.add_mul]; omega), List.nil_append, show (i + 1) * k - k = i * k by rw [Nat.add_mul]; omega]
    exact ih
theorem flat_set (hc : ∀ x, (c x).length = k) : ∀ (X : TR) (i : Nat) (y : Int × PT), i < X.length → (X.set i y).flatMap c = splice (X.flatMap c) (i * k) (c y)
  | [], i, y, h => by simp at h
  | a :: X, 0, y, h => by
    unfold splice
    rw [List.set_cons_zero, List.flatMap_cons, List.flatMap_cons, Nat.zero_mul, List.take_zero, Nat.zero_add, hc y, List.nil_append, ← hc a, List.drop_left]
  | a :: X, i + 1, y, h => by
    have ih := flat_set hc X i y (by simpa using h)
    unfold splice at ih ⊢
    have e : (i + 1) * k = k + i * k := by rw [Nat.add_mul]; omega
    rw [List.set_cons_succ, List.flatMap_cons, List.flatMap_cons, ih, e, List.take_append, List.drop_append, hc a, List.take_of_length_le (l := c a) (by rw [hc a]; omega), List.drop_eq_nil_of_le (show (c a).length ≤ k + i * k + (c y).length by rw [hc a]; omega), show k + i * k - k = i * k by omega, show k + i * k + (c y).length - k = i * k + (c y).length by omega]
    simp

/-! a column: the rows X, laid flat by c (k cells a row), in a block of its own -/
def ColX (w : World) (t : TypeId) (k : Nat) (c : Int × PT → List Value) (v : Value) (X : TR) : Prop := w.ownsRow 0 t k v X.length (X.flatMap c)
theorem ColX.nil (w : World) (t : TypeId) (k : Nat) (c : Int × PT → List Value) : ColX w t k c (.slice none 0 0) [] := World.ownsRow_nil _ _ _ _
theorem ColX.open_ {w : World} {t : TypeId} {v : Value} {X : TR} (h : ColX w t k c v X) (hX : 0 < X.length) :
    ∃ g cap cur, v = .slice (some ⟨g, 0, none⟩) X.length cap ∧ Blk w g t (List.toArray cur) ∧ X.length ≤ cap ∧ cap ≤ maxLen ∧ cur.length = cap * k ∧ cur.take (X.length * k) = X.flatMap c := by
  rcases h.2 with ⟨_, h0⟩ | ⟨g, cap, cur, hv, _, hg, hn, hm, hs, ht⟩
  · omega
  · exact ⟨g, cap, cur.toList, hv, by simpa [Blk] using hg, hn, hm, by simpa using hs, ht⟩
theorem ColX.close {w : World} {t : TypeId} {X : TR} {g cap : Nat} {cur : List Value} (hc : ∀ x, (c x).length = k) (hb : Blk w g t cur.toArray) (hn : X.length ≤ cap) (hm : cap ≤ maxLen) (hs : cur.length = cap * k) (ht : cur.take (X.length * k) = X.flatMap c) : ColX w t k c (.slice (some ⟨g, 0, none⟩) X.length cap) X :=
  ⟨flat_len hc X, Or.inr ⟨g, cap, cur.toArray, rfl, Nat.zero_le _, hb, hn, hm, by simpa using hs, by simpa using ht⟩⟩
/-- what a column looks like to the walk: a slice of so many -/
theorem ColX.form {w : World} {t : TypeId} {v : Value} {X : TR} (h : ColX w t k c v X) : ∃ a cap, v = .slice a X.length cap ∧ X.length ≤ cap ∧ cap ≤ maxLen := by
  rcases h.2 with ⟨hv, h0⟩ | ⟨g, cap, cur, hv, _, hg, hn, hm, hs, ht⟩
  · exact ⟨none, 0, by rw [h0]; exact hv, by omega, by unfold maxLen; omega⟩
  · exact ⟨_, cap, hv, hn, hm⟩
theorem ColX.range {w : World} {t : TypeId} {X : TR} {g n cap : Nat} (hc : ∀ x, (c x).length = k) (h : ColX w t k c (.slice (some ⟨g, 0, none⟩) n cap) X) {i : Nat} {x : Int × PT} (hi : X[i]? = some x) : w.rangeAt g (i * k) (c x) := by
  have hlt : i < X.length := (List.getElem?_eq_some_iff.1 hi).1
  obtain ⟨g', cap', cur, hv, hb, hn, hm, hs, ht⟩ := h.open_ (by omega)
  injection hv with h1 h2 h3
  injection h1 with h1
  injection h1 with h1
  subst h1
  have := blk_range hb (i * k) k
  have e : (cur.drop (i * k)).take k = c x := by
    rw [← flat_at hc X i x hi, ← ht, List.drop_take, List.take_take, Nat.min_eq_left]
    have : (i + 1) * k ≤ X.length * k := Nat.mul_le_mul_right _ hlt
    rw [Nat.add_mul] at this
    omega
  rwa [e] at this
theorem ColX.blk {w : World} {t : TypeId} {X : TR} {g n cap : Nat} (h : ColX w t k c (.slice (some ⟨g, 0, none⟩) n cap) X) (hX : 0 < X.length) : ∃ cur, Blk w g t (List.toArray cur) ∧ X.length * k ≤ cur.length ∧ X.length = n ∧ X.length ≤ cap ∧ cap ≤ maxLen ∧ cur.length = cap * k ∧ cur.take (X.length * k) = X.flatMap c := by
  obtain ⟨g', cap', cur, hv, hb, hn, hm, hs, ht⟩ := h.open_ hX
  injection hv with h1 h2 h3
  injection h1 with h1
  injection h1 with h1
  subst h1
  subst h3
  exact ⟨cur, hb, by rw [hs]; exact Nat.mul_le_mul_right _ hn, h2.symm, hn, hm, hs, ht⟩
theorem splice_take {A vs : List Value} {o n : Nat} (h : o + vs.length ≤ n) (hn : n ≤ A.length) : (splice A o vs).take n = splice (A.take n) o vs := by
  unfold splice
  rw [List.take_append, List.take_append, List.take_take, List.drop_take, List.length_append, List.length_take, Nat.min_eq_left (show o ≤ A.length by omega), List.take_take, Nat.min_eq_right (show o ≤ n by omega), Nat.min_eq_left (show o ≤ n by omega), List.take_of_length_le (show vs.length ≤ n - o by omega)]
theorem ColX.there {w : World} {t : TypeId} {X : TR} {g n cap : Nat} (h : ColX w t k c (.slice (some ⟨g, 0, none⟩) n cap) X) {i : Nat} (hi : i < X.length) : w.there g (i * k) k := by
  obtain ⟨cur, hb, hl, _⟩ := h.blk (by omega)
  refine blk_there hb ?_
  have : (i + 1) * k ≤ X.length * k := Nat.mul_le_mul_right _ hi
  rw [Nat.add_mul] at this
  omega
/-- a row's cells, laid anew -/
theorem ColX.set_ {w : World} {t : TypeId} {X : TR} {g n cap : Nat} (hc : ∀ x, (c x).length = k) (h : ColX w t k c (.slice (some ⟨g, 0, none⟩) n cap) X) {i : Nat} (hi : i < X.length) (y : Int × PT) : ColX (w.setCells g (i * k) (c y)) t k c (.slice (some ⟨g, 0, none⟩) n cap) (X.set i y) := by
  obtain ⟨cur, hb, hl, hn, hcap, hm, hs, ht⟩ := h.blk (by omega)
  have h1 : (i + 1) * k ≤ X.length * k := Nat.mul_le_mul_right _ hi
  rw [Nat.add_mul] at h1
  have hb' := blk_setCells (c y) (o := i * k) hb (by rw [hc]; omega)
  subst hn
  have := ColX.close (X := X.set i y) (cap := cap) hc hb' (by rw [List.length_set]; exact hcap) hm (by rw [splice_len (by rw [hc]; omega)]; exact hs) (by rw [List.length_set, splice_take (by rw [hc]; omega) hl, ht, flat_set hc X i y hi])
  rw [List.length_set] at this
  exact this
/-- the rows behind are left out -/
theorem ColX.take_ {w : World} {t : TypeId} {X : TR} {g n cap : Nat} (hc : ∀ x, (c x).length = k) (h : ColX w t k c (.slice (some ⟨g, 0, none⟩) n cap) X) (hX : 0 < X.length) {m : Nat} (hm' : m ≤ X.length) : ColX w t k c (.slice (some ⟨g, 0, none⟩) m cap) (X.take m) := by
  obtain ⟨cur, hb, hl, hn, hcap, hm, hs, ht⟩ := h.blk hX
  have e : (X.take m).length = m := by rw [List.length_take]; omega
  have := ColX.close (X := X.take m) (cap := cap) hc hb (by rw [e]; omega) hm hs (by rw [e, flat_take hc X m hm', ← ht, List.take_take, Nat.min_eq_left (Nat.mul_le_mul_right _ hm')])
  rw [e] at this
  exact this
theorem ColX.kept {w w' : World} {t : TypeId} {v : Value} {X : TR} {row : Option Nat} (h : ColX w t k c v X) (hg : w.grownBy w' row) (hne : v.ownBlock = none ∨ v.ownBlock ≠ row) : ColX w' t k c v X := World.ownsRow.kept h hg hne
theorem ColX.same {w w' : World} {t : TypeId} {v : Value} {X : TR} (h : ColX w t k c v X) (he : ∀ b, v.ownBlock = some b → w'.heap[b]? = w.heap[b]?) : ColX w' t k c v X := by
  refine ⟨h.1, ?_⟩
  rcases h.2 with hn | ⟨g, cap, cur, rfl, hb, hgg, rest⟩
  · exact .inl hn
  · exact .inr ⟨g, cap, cur, rfl, hb, by rw [he g rfl]; exact hgg, rest⟩
theorem grown_sets : ∀ (vs : List Value) (w : World) (g o : Nat), w.grownBy (w.setCells g o vs) (some g)
  | [], w, g, o => ⟨rfl, rfl, rfl, Nat.le_refl _, fun _ _ _ => rfl⟩
  | v :: vs, w, g, o => by
    have h1 : w.grownBy (w.setCell ⟨g, o, none⟩ v) (some g) := ⟨rfl, rfl, rfl, by simp [World.setCell], fun j _ hne => by simp [World.setCell, Array.getElem?_modify]; intro e; exact absurd (by rw [e]) hne⟩
    have h2 := grown_sets vs (w.setCell ⟨g, o, none⟩ v) g (o + 1)
    exact ⟨h2.os.trans h1.os, h2.tape.trans h1.tape, h2.output.trans h1.output, Nat.le_trans h1.size h2.size, fun i hi hne => (h2.block i (Nat.lt_of_lt_of_le hi h1.size) hne).trans (h1.block i hi hne)⟩

end Go.Proofs.Ytpobnmcjmclgbaa
