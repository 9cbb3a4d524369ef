/-
  Lists of names that are known whole: what slices.Clone, BinarySearch, Delete, Reverse and Compact make of them.
-/
import Derived.Test.YtdndafdninnjfaaGreatMQLfoB
import Derived.Deep.LoopGhost
namespace Go.Proofs.YtdndafdninnjfaaGreat
open Go.RowKit

theorem OwnD.len {w : World} {base n : Nat} {v : Value} {zs : List Int} (h : OwnD w base v n zs) : zs.length = n := by
  have := h.1
  rw [List.length_map, Nat.mul_one] at this
  exact this
theorem OwnD.cut {w : World} {base n cap g k : Nat} {zs : List Int} (h : OwnD w base (.slice (some ⟨g, 0, none⟩) n cap) n zs) (hk : k ≤ n) : OwnD w base (.slice (some ⟨g, 0, none⟩) k cap) k (zs.take k) := by
  have hl := h.len
  refine ⟨by rw [List.length_map, List.length_take, Nat.mul_one]; omega, ?_⟩
  rcases h.2 with ⟨e, _⟩ | ⟨g', cap', cur, e, hb, hg, hn1, hm, hs, ht⟩
  · injection e with e _ _
    cases e
  · injection e with e1 _ e3
    injection e1 with e1
    injection e1 with e1 _ _
    subst e1 e3
    refine Or.inr ⟨g, cap, cur, rfl, hb, hg, by omega, hm, hs, ?_⟩
    rw [Nat.mul_one] at ht ⊢
    rw [List.map_take, ← ht, List.take_take, Nat.min_eq_left hk]
theorem OwnD.base {w : World} {base base' n : Nat} {v : Value} {zs : List Int} (h : OwnD w base v n zs) (hb : base' ≤ base) : OwnD w base' v n zs := ⟨h.1, h.2.imp id fun ⟨g, cap, cur, h1, h2, h3⟩ => ⟨g, cap, cur, h1, Nat.le_trans hb h2, h3⟩⟩
theorem OwnD.same {w w' : World} {base n : Nat} {v : Value} {zs : List Int} (h : OwnD w base v n zs) (he : ∀ b, v.ownBlock = some b → w'.heap[b]? = w.heap[b]?) : OwnD w' base v n zs :=
  ⟨h.1, h.2.imp id fun ⟨g, cap, cur, e, hb, hg, hr⟩ => ⟨g, cap, cur, e, hb, (he g (by rw [e]; rfl)).trans hg, hr⟩⟩
theorem OwnD.lt {w : World} {base n : Nat} {v : Value} {zs : List Int} (h : OwnD w base v n zs) : ∀ b, v.ownBlock = some b → base ≤ b ∧ b < w.heap.size := World.ownsRow.lt h
theorem OwnD.keep {w w' : World} {base n : Nat} {v : Value} {zs : List Int} (h : OwnD w base v n zs) (hb : Below w.heap.size w w') : OwnD w' base v n zs := h.same (fun b e => hb.block b (h.lt b e).2)
/-- what was put over a row -/
theorem put_row9 {w : World} {base g cap q : Nat} {xs ts : List Int} (h : OwnD w base (.slice (some ⟨g, 0, none⟩) xs.length cap) xs.length xs) (hl : ts.length = xs.length) :
    OwnD (Go.Sort.putRow encZ (Go.Sort.ahead w q) g 0 ts.toArray) base (.slice (some ⟨g, 0, none⟩) xs.length cap) xs.length ts ∧ w.grownBy (Go.Sort.putRow encZ (Go.Sort.ahead w q) g 0 ts.toArray) (some g) := by
  rcases h.2 with ⟨e, _⟩ | ⟨g', cap', cur, e, hb, hg, hn1, hm, hs, ht⟩
  · injection e with e _ _
    cases e
  · injection e with e1 _ e3
    injection e1 with e1
    injection e1 with e1 _ _
    subst e1 e3
    have h1 := ownsRow_sorted_i (n := q) (os := #[]) hl hb hg hn1 hm (by simpa using hs)
    have h2 := grownBy_sorted_i (w := w) (g := g) (n := q) (os := #[]) ts.toArray
    rw [Go.Sort.grow_empty] at h1 h2
    exact ⟨h1, h2⟩
theorem holds9 {w : World} {base g cap : Nat} {xs : List Int} (h : OwnD w base (.slice (some ⟨g, 0, none⟩) xs.length cap) xs.length xs) : Go.Sort.Holds encZ w g 0 xs.toArray ∧ xs.length ≤ cap ∧ cap ≤ maxLen := by
  rcases h.2 with ⟨e, _⟩ | ⟨g', cap', cur, e, hb, hg, hn1, hm, hs, ht⟩
  · injection e with e _ _
    cases e
  · injection e with e1 _ e3
    injection e1 with e1
    injection e1 with e1 _ _
    subst e1 e3
    exact ⟨holds_of_block_i hg (by simpa using ht), hn1, hm⟩
theorem rev9_any {w : World} {base n : Nat} {v : Value} {xs : List Int} (h : OwnD w base v n xs) :
    Calls Tryz.prog 44 #[v] w fun e w' => e = .returned (.tuple #[]) ∧ OwnD w' base v n xs.reverse ∧ w.grownBy w' v.ownBlock := by
  have hl := h.len
  rcases h.2 with ⟨rfl, h0⟩ | ⟨g, cap, cur, rfl, hb, hg, hn1, hm, hs, ht⟩
  · have hx : xs = [] := List.eq_nil_of_length_eq_zero (by omega)
    subst hx
    refine (AnyG.slices_Reverse_int_empty lay_revB none 0 w).mono ?_
    rintro e w' ⟨rfl, rfl⟩
    exact ⟨rfl, h, ⟨rfl, rfl, rfl, Nat.le_refl _, fun _ _ _ => rfl⟩⟩
  · subst hl
    obtain ⟨h1, h2, h3⟩ := holds9 h
    unfold maxLen at h3
    refine (AnyG.slices_Reverse_int lay_revB g 0 cap xs w h1 (by omega)).mono ?_
    rintro e w' ⟨rfl, q, rfl⟩
    obtain ⟨k1, k2⟩ := put_row9 (q := q) (ts := xs.reverse) h (by simp)
    exact ⟨rfl, k1, k2⟩
theorem comp9_any {w : World} {base n : Nat} {v : Value} {xs : List Int} (h : OwnD w base v n xs) :
    Calls Tryz.prog 65 #[v] w fun e w' => ∃ v', e = .returned v' ∧ OwnD w' base v' (Lib.compact xs).length (Lib.compact xs) ∧ w.grownBy w' v.ownBlock ∧ v'.ownBlock = v.ownBlock := by
  have hl := h.len
  rcases h.2 with ⟨rfl, h0⟩ | ⟨g, cap, cur, rfl, hb, hg, hn1, hm, hs, ht⟩
  · have hx : xs = [] := List.eq_nil_of_length_eq_zero (by omega)
    subst hx
    refine (AnyG.slices_Compact_int_empty lay_compB none 0 w).mono ?_
    rintro e w' ⟨rfl, rfl⟩
    exact ⟨_, rfl, OwnD.nil _ _, ⟨rfl, rfl, rfl, Nat.le_refl _, fun _ _ _ => rfl⟩, rfl⟩
  · subst hl
    obtain ⟨h1, h2, h3⟩ := holds9 h
    unfold maxLen at h3
    have hle := Lib.compact_length_le xs
    refine (AnyG.slices_Compact_int lay_compB g 0 cap xs w h1 (by omega) h2).mono ?_
    rintro e w' ⟨rfl, q, rfl⟩
    obtain ⟨k1, k2⟩ := put_row9 (q := q) (ts := Lib.compact xs ++ List.replicate (xs.length - (Lib.compact xs).length) 0) h (by rw [List.length_append, List.length_replicate]; omega)
    refine ⟨_, rfl, ?_, k2, rfl⟩
    have k3 := k1.cut hle
    rwa [List.take_left] at k3
theorem del9_any {w : World} {base g cap i : Nat} {xs : List Int} (h : OwnD w base (.slice (some ⟨g, 0, none⟩) xs.length cap) xs.length xs) (hi : i < xs.length) :
    Calls Tryz.prog 80 #[.slice (some ⟨g, 0, none⟩) xs.length cap, .int .i64 i, .int .i64 (i + 1)] w fun e w' => e = .returned (.slice (some ⟨g, 0, none⟩) (xs.length - 1) cap) ∧ OwnD w' base (.slice (some ⟨g, 0, none⟩) (xs.length - 1) cap) (xs.length - 1) (xs.take i ++ xs.drop (i + 1)) ∧ w.grownBy w' (some g) := by
  obtain ⟨h1, h2, h3⟩ := holds9 h
  unfold maxLen at h3
  have hc := AnyG.slices_Delete_int lay_delB g 0 cap i (i + 1) xs w h1 h2 (by omega) (by omega) (by omega)
  rw [show i + 1 - i = 1 by omega] at hc
  refine hc.mono ?_
  rintro e w' ⟨rfl, q, rfl⟩
  have hl : (xs.take i ++ xs.drop (i + 1)).length = xs.length - 1 := by rw [List.length_append, List.length_take, List.length_drop]; omega
  obtain ⟨k1, k2⟩ := put_row9 (q := q) (ts := xs.take i ++ xs.drop (i + 1) ++ List.replicate 1 0) h (by rw [List.length_append, hl, List.length_replicate]; omega)
  refine ⟨rfl, ?_, k2⟩
  have k3 := k1.cut (k := xs.length - 1) (by omega)
  rwa [List.take_left' hl] at k3
theorem clone9_any {w : World} {a : Option Addr} {n cap : Nat} {xs : List Int} (h : Row w a n xs) (hn : n ≤ 100000) :
    Calls Tryz.prog 63 #[.slice a n cap] w fun e w' => ∃ v, e = .returned v ∧ OwnD w' w.heap.size v n xs ∧ Below w.heap.size w w' := by
  have hl := h.1
  cases a with
  | none =>
    have h0 : n = 0 := by
      rcases h.2.2 with c | ⟨b, off, e, _⟩
      · exact c
      · cases e
    subst h0
    have hx : xs = [] := List.eq_nil_of_length_eq_zero hl
    subst hx
    refine (AnyG.slices_Clone_int_nil lay_cloneB 0 cap w).mono ?_
    rintro e w' ⟨rfl, rfl⟩
    exact ⟨_, rfl, OwnD.nil _ _, Below.refl _ _⟩
  | some ad =>
    by_cases h0 : n = 0
    · subst h0
      have hx : xs = [] := List.eq_nil_of_length_eq_zero hl
      subst hx
      refine (AnyG.slices_Clone_int_zero lay_cloneB ad cap w).mono ?_
      rintro e w' ⟨v, rfl, k1, _, k2⟩
      exact ⟨v, rfl, k1, k2⟩
    · rcases h.2.2 with c | ⟨b, off, e, hc⟩
      · exact absurd c h0
      · injection e with e
        subst e
        refine (AnyG.slices_Clone_int lay_cloneB b off n cap xs w (by omega) (by omega) (fun j hj => hc j (by omega))).mono ?_
        rintro e w' ⟨v, rfl, k1, _, k2⟩
        rw [List.take_of_length_le (by omega)] at k1
        exact ⟨v, rfl, k1, k2⟩
set_option maxHeartbeats 2000000 in
set_option maxRecDepth 100000 in
theorem find9_none (w : World) (a : Option Addr) (cap : Nat) (x : Int) :
    Calls Tryz.prog 79 #[.slice a 0 cap, .int .i64 x] w fun e w' => e = .returned (.tuple #[.int .i64 0, .bool false]) ∧ w' = w := by
  go_enter Tryz.func79, Tryz.ntmps79
  go_wp2
  go_loopg [7, 8] 0 (fun _ s7 s8 wr => s7 = .int .i64 0 ∧ s8 = .int .i64 0 ∧ wr = w)
  case atStart => exact ⟨rfl, rfl, rfl⟩
  case round =>
    obtain ⟨rfl, rfl, rfl⟩ := hrel
    go_wp2
    go_ret2
    exact ⟨rfl, rfl⟩
theorem find9_any {w : World} {a : Option Addr} {n cap : Nat} {xs : List Int} (h : Row w a n xs) (hn : n ≤ 100000) (hs : xs.Pairwise (· ≤ ·)) (x : Int) :
    Calls Tryz.prog 79 #[.slice a n cap, .int .i64 x] w fun e w' => e = .returned (.tuple #[.int .i64 (cntI xs x : Nat), .bool (decide (x ∈ xs))]) ∧ ∃ q, w' = w.drewN q := by
  have hl := h.1
  by_cases h0 : n = 0
  · subst h0
    have hx : xs = [] := List.eq_nil_of_length_eq_zero hl
    subst hx
    refine (find9_none w a cap x).mono ?_
    rintro e w' ⟨rfl, rfl⟩
    exact ⟨rfl, 0, rfl⟩
  · rcases h.2.2 with c | ⟨b, off, e, hc⟩
    · exact absurd c h0
    · subst e
      refine (AnyG.slices_BinarySearch_int lay_findB b off n cap xs x w (by omega) (by omega) (fun j hj => hc j (by omega)) (by rw [List.take_of_length_le (by omega)]; exact hs)).mono ?_
      rintro e w' ⟨rfl, q, rfl⟩
      rw [List.take_of_length_le (by omega)]
      refine ⟨?_, q, rfl⟩
      rw [show xs.contains x = decide (x ∈ xs) from by simp]
      rfl

end Go.Proofs.YtdndafdninnjfaaGreat
