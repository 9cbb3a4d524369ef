/-
  3 texts in one file, each with its own heading.
-/
import Derived.Test.YtkondkajpmafkaaGreatMT31
import Derived.Deep.LoopGhost
import Derived.Maps.AppendAt
import Derived.Shelf.Spec.SlicesInsertGrow
/-
  The forest's lists of children, rising: what freeing, setting and dropping makes of them.
-/
namespace Go.Proofs.YtkondkajpmafkaaGreat
open Go.RowKit

theorem up_nod {l : List Int} (h : l.Pairwise (· < ·)) : l.Nodup := h.imp (fun {a b} c => by omega)
theorem up_ext {l m : List Int} (hl : l.Pairwise (· < ·)) (hm : m.Pairwise (· < ·)) (h : ∀ z, z ∈ l ↔ z ∈ m) : l = m :=
  List.Perm.eq_of_pairwise (le := fun a b => a < b) (fun a b _ _ h1 h2 => by omega) hl hm ((List.perm_ext_iff_of_nodup (up_nod hl) (up_nod hm)).2 h)
theorem chF_up {L : FT} (hn : (L.map Prod.fst).Nodup) (x : Int) : (chF L x).Pairwise (· < ·) := by
  have h1 : (chF L x).Pairwise (· ≤ ·) := sort_sorted _ [] List.Pairwise.nil
  have h2 : (chF L x).Pairwise (· ≠ ·) := chF_nod hn x
  exact (h1.and h2).imp (fun {a b} c => by omega)
theorem up_le {l : List Int} (h : l.Pairwise (· < ·)) : l.Pairwise (· ≤ ·) := h.imp (fun {a b} c => by omega)
theorem cnt_at {c : Int} : ∀ {l : List Int}, l.Pairwise (· < ·) → c ∈ l → l[l.countP (fun z => decide (z < c))]? = some c
  | [], _, h => by cases h
  | a :: l, hp, h => by
    rw [List.pairwise_cons] at hp
    rcases List.mem_cons.1 h with rfl | h
    · have h0 : (c :: l).countP (fun z => decide (z < c)) = 0 := List.countP_eq_zero.2 (fun z hz => by
        rcases List.mem_cons.1 hz with rfl | hz
        · simp
        · have := hp.1 z hz; simp; omega)
      rw [h0]
      rfl
    · have hlt := hp.1 c h
      rw [List.countP_cons_of_pos (by simpa using hlt), List.getElem?_cons_succ]
      exact cnt_at hp.2 h
theorem cnt_split {c : Int} : ∀ {l : List Int}, l.Pairwise (· < ·) → (∀ z ∈ l.take (l.countP (fun z => decide (z < c))), z < c) ∧ ∀ z ∈ l.drop (l.countP (fun z => decide (z < c))), ¬ z < c
  | [], _ => ⟨fun z h => by simp at h, fun z h => by simp at h⟩
  | a :: l, hp => by
    rw [List.pairwise_cons] at hp
    by_cases hlt : a < c
    · rw [List.countP_cons_of_pos (by simpa using hlt), List.take_succ_cons, List.drop_succ_cons]
      obtain ⟨h1, h2⟩ := cnt_split hp.2
      exact ⟨fun z hz => (List.mem_cons.1 hz).elim (fun e => by rw [e]; exact hlt) (h1 z), h2⟩
    · have h0 : (a :: l).countP (fun z => decide (z < c)) = 0 := List.countP_eq_zero.2 (fun z hz => by
        rcases List.mem_cons.1 hz with rfl | hz
        · simpa using hlt
        · have := hp.1 z hz; simp; omega)
      rw [h0]
      refine ⟨fun z hz => by simp at hz, fun z hz => ?_⟩
      rw [List.drop_zero] at hz
      rcases List.mem_cons.1 hz with rfl | hz
      · exact hlt
      · have := hp.1 z hz; omega
def cntI (l : List Int) (c : Int) : Nat := l.countP (fun z => decide (z < c))
theorem cntI_le (l : List Int) (c : Int) : cntI l c ≤ l.length := List.countP_le_length
theorem cntI_lt {l : List Int} {c : Int} (hp : l.Pairwise (· < ·)) (h : c ∈ l) : cntI l c < l.length := (List.getElem?_eq_some_iff.1 (cnt_at hp h)).1
def cutI (l : List Int) (c : Int) : List Int := l.take (cntI l c) ++ l.drop (cntI l c + 1)
def putI (l : List Int) (c : Int) : List Int := l.take (cntI l c) ++ c :: l.drop (cntI l c)
theorem at_split {l : List Int} {i : Nat} {c : Int} (h : l[i]? = some c) : l = l.take i ++ c :: l.drop (i + 1) := by
  obtain ⟨hi, e⟩ := List.getElem?_eq_some_iff.1 h
  rw [← e, ← List.drop_eq_getElem_cons hi, List.take_append_drop]
theorem cutI_len {l : List Int} {c : Int} (hp : l.Pairwise (· < ·)) (h : c ∈ l) : (cutI l c).length = l.length - 1 := by
  have := cntI_lt hp h
  unfold cutI
  rw [List.length_append, List.length_take, List.length_drop]
  omega
theorem putI_len (l : List Int) (c : Int) : (putI l c).length = l.length + 1 := by
  have := cntI_le l c
  unfold putI
  rw [List.length_append, List.length_take, List.length_cons, List.length_drop]
  omega
theorem cutI_up {l : List Int} {c : Int} (hp : l.Pairwise (· < ·)) : (cutI l c).Pairwise (· < ·) := by
  unfold cutI
  rw [← List.eraseIdx_eq_take_drop_succ]
  exact hp.sublist (List.eraseIdx_sublist _ _)
theorem mem_cutI {l : List Int} {c : Int} (hp : l.Pairwise (· < ·)) (h : c ∈ l) {z : Int} : z ∈ cutI l c ↔ z ∈ l ∧ z ≠ c := by
  have e := at_split (cnt_at hp h)
  have hp2 := hp
  rw [e, List.pairwise_append] at hp2
  obtain ⟨h1, h2, h3⟩ := hp2
  rw [List.pairwise_cons] at h2
  unfold cutI cntI
  constructor
  · intro hz
    rcases List.mem_append.1 hz with hz | hz
    · exact ⟨List.mem_of_mem_take hz, fun q => by have := h3 z hz c List.mem_cons_self; omega⟩
    · exact ⟨List.mem_of_mem_drop hz, fun q => by have := h2.1 z hz; omega⟩
  · rintro ⟨hz, hne⟩
    rw [e] at hz
    rcases List.mem_append.1 hz with hz | hz
    · exact List.mem_append_left _ hz
    · rcases List.mem_cons.1 hz with hz | hz
      · exact absurd hz hne
      · exact List.mem_append_right _ hz
theorem putI_up {l : List Int} {c : Int} (hp : l.Pairwise (· < ·)) (h : c ∉ l) : (putI l c).Pairwise (· < ·) := by
  obtain ⟨h1, h2⟩ := cnt_split (c := c) hp
  have h2' : ∀ z ∈ l.drop (cntI l c), c < z := fun z hz => by
    have q1 := h2 z hz
    have q2 : z ≠ c := fun e => h (e ▸ List.mem_of_mem_drop hz)
    omega
  unfold putI
  refine List.pairwise_append.2 ⟨hp.sublist (List.take_sublist _ _), List.pairwise_cons.2 ⟨h2', hp.sublist (List.drop_sublist _ _)⟩, fun a ha b hb => ?_⟩
  have ha' := h1 a ha
  rcases List.mem_cons.1 hb with rfl | hb
  · exact ha'
  · have := h2' b hb; omega
theorem mem_putI {l : List Int} {c z : Int} : z ∈ putI l c ↔ z = c ∨ z ∈ l := by
  unfold putI
  rw [List.mem_append, List.mem_cons]
  constructor
  · rintro (h | h | h)
    · exact Or.inr (List.mem_of_mem_take h)
    · exact Or.inl h
    · exact Or.inr (List.mem_of_mem_drop h)
  · rintro (h | h)
    · exact Or.inr (Or.inl h)
    · rw [← List.take_append_drop (cntI l c) l, List.mem_append] at h
      exact h.imp id Or.inr
section
variable {L : FT} {c p x : Int}
theorem ch_free_other (hn : (L.map Prod.fst).Nodup) (h : parO L c = some p) (hx : x ≠ p) : chF (freeF L c) x = chF L x := by
  refine up_ext (chF_up (free_nod hn c) x) (chF_up hn x) (fun z => ?_)
  rw [mem_chF (free_nod hn c), mem_chF hn, par_free]
  by_cases q : z = c
  · rw [if_pos q, q, h]
    exact ⟨fun k => (by cases k), fun k => (by injection k with k; exact absurd k.symm hx)⟩
  · rw [if_neg q]
theorem ch_free_self (hn : (L.map Prod.fst).Nodup) (h : parO L c = some p) : chF (freeF L c) p = cutI (chF L p) c := by
  have hc : c ∈ chF L p := (mem_chF hn).2 h
  refine up_ext (chF_up (free_nod hn c) p) (cutI_up (chF_up hn p)) (fun z => ?_)
  rw [mem_chF (free_nod hn c), mem_cutI (chF_up hn p) hc, mem_chF hn, par_free]
  by_cases q : z = c
  · rw [if_pos q]
    exact ⟨fun k => (by cases k), fun k => absurd q k.2⟩
  · rw [if_neg q]
    exact ⟨fun k => ⟨k, q⟩, fun k => k.1⟩
theorem free_none (h : parO L c = none) : freeF L c = L := by
  unfold freeF
  refine List.filter_eq_self.2 (fun q hq => ?_)
  by_cases e : q.1 = c
  · exfalso
    unfold parO at h
    have : L.find? (fun p => p.1 == c) ≠ none := fun k => by
      have := List.find?_eq_none.1 k q hq
      simp [e] at this
    cases k : L.find? (fun p => p.1 == c) with
    | none => exact this k
    | some v => rw [k] at h; cases h
  · simpa using e
theorem free_twice (L : FT) (c : Int) : freeF (freeF L c) c = freeF L c := free_none (by rw [par_free, if_pos rfl])
theorem ch_set_other (hn : (L.map Prod.fst).Nodup) (h : parO L c = none) (hx : x ≠ p) : chF (setF L c p) x = chF L x := by
  refine up_ext (chF_up (set_nod hn c p) x) (chF_up hn x) (fun z => ?_)
  rw [mem_chF (set_nod hn c p), mem_chF hn, par_set]
  by_cases q : z = c
  · rw [if_pos q, q, h]
    exact ⟨fun k => (by injection k with k; exact absurd k.symm hx), fun k => (by cases k)⟩
  · rw [if_neg q]
theorem ch_set_self (hn : (L.map Prod.fst).Nodup) (h : parO L c = none) : chF (setF L c p) p = putI (chF L p) c := by
  have hc : c ∉ chF L p := fun k => by rw [mem_chF hn, h] at k; cases k
  refine up_ext (chF_up (set_nod hn c p) p) (putI_up (chF_up hn p) hc) (fun z => ?_)
  rw [mem_chF (set_nod hn c p), mem_putI, mem_chF hn, par_set]
  by_cases q : z = c
  · rw [if_pos q]
    exact ⟨fun _ => Or.inl q, fun _ => rfl⟩
  · rw [if_neg q]
    exact ⟨Or.inr, fun k => k.elim (fun e => absurd e q) id⟩
theorem par_frees (z : Int) : ∀ (xs : List Int) (L : FT), parO (freeS L xs) z = if z ∈ xs then none else parO L z
  | [], L => by simp [freeS]
  | a :: xs, L => by
    have ih := par_frees z xs (freeF L a)
    show parO (freeS (freeF L a) xs) z = _
    rw [ih, par_free]
    by_cases q : z ∈ xs
    · rw [if_pos q, if_pos (List.mem_cons_of_mem _ q)]
    · rw [if_neg q]
      by_cases e : z = a
      · rw [if_pos e, if_pos (by rw [e]; exact List.mem_cons_self)]
      · rw [if_neg e, if_neg (fun k => (List.mem_cons.1 k).elim e q)]
theorem frees_nod : ∀ (xs : List Int) {L : FT}, (L.map Prod.fst).Nodup → ((freeS L xs).map Prod.fst).Nodup
  | [], _, h => h
  | a :: xs, _, h => frees_nod xs (free_nod h a)
theorem not_own {L : FT} (h : WF L) (x : Int) : parO L x ≠ some x := fun e => by
  have := no_ring h x
  rw [abv_some h e] at this
  exact this List.mem_cons_self
theorem ch_free_same (h : WF L) (x : Int) : chF (freeF L x) x = chF L x := by
  cases hp : parO L x with
  | none => rw [free_none hp]
  | some p => exact ch_free_other h.1 hp (fun e => not_own h x (by rw [hp, ← e]))
theorem ch_drop_self (h : WF L) (x : Int) : chF (dropF L x) x = [] := by
  have hn := frees_nod (chF L x) (free_nod h.1 x)
  refine List.eq_nil_iff_forall_not_mem.2 (fun z hz => ?_)
  unfold dropF at hz
  rw [mem_chF hn, par_frees] at hz
  by_cases q : z ∈ chF L x
  · rw [if_pos q] at hz; cases hz
  · rw [if_neg q, par_free] at hz
    by_cases e : z = x
    · rw [if_pos e] at hz; cases hz
    · rw [if_neg e] at hz
      exact q ((mem_chF h.1).2 hz)
theorem ch_drop_other (h : WF L) {x y : Int} (hy : y ≠ x) : chF (dropF L x) y = chF (freeF L x) y := by
  have hn := frees_nod (chF L x) (free_nod h.1 x)
  refine up_ext (chF_up hn y) (chF_up (free_nod h.1 x) y) (fun z => ?_)
  rw [mem_chF (free_nod h.1 x)]
  unfold dropF
  rw [mem_chF hn, par_frees]
  by_cases q : z ∈ chF L x
  · rw [if_pos q, par_free]
    have e := (mem_chF h.1).1 q
    refine ⟨fun k => (by cases k), fun k => ?_⟩
    by_cases f : z = x
    · rw [if_pos f] at k; cases k
    · rw [if_neg f, e] at k
      injection k with k
      exact absurd k.symm hy
  · rw [if_neg q]
end
theorem free_rng {L : FT} (h : ∀ p ∈ L, Rg p.1 ∧ Rg p.2) (c : Int) : ∀ p ∈ freeF L c, Rg p.1 ∧ Rg p.2 := fun p hp => h p (List.mem_filter.1 hp).1
theorem frees_rng : ∀ (xs : List Int) {L : FT}, (∀ p ∈ L, Rg p.1 ∧ Rg p.2) → ∀ p ∈ freeS L xs, Rg p.1 ∧ Rg p.2
  | [], _, h => h
  | a :: xs, _, h => frees_rng xs (free_rng h a)
theorem set_rng {L : FT} (h : ∀ p ∈ L, Rg p.1 ∧ Rg p.2) {c p : Int} (hc : Rg c) (hp : Rg p) : ∀ q ∈ setF L c p, Rg q.1 ∧ Rg q.2 := fun q hq => by
  unfold setF at hq
  rcases List.mem_append.1 hq with hq | hq
  · exact free_rng h c q hq
  · rw [List.mem_singleton] at hq
    rw [hq]
    exact ⟨hc, hp⟩

theorem OwnD.len {w : World} {base n : Nat} {v : Value} {zs : List Int} (h : OwnD w base v n zs) : zs.length = n := by
  have := h.1
  rw [List.length_map, Nat.mul_one] at this
  exact this
theorem OwnD.cut {w : World} {base n cap g k : Nat} {zs : List Int} (h : OwnD w base (.slice (some ⟨g, 0, none⟩) n cap) n zs) (hk : k ≤ n) : OwnD w base (.slice (some ⟨g, 0, none⟩) k cap) k (zs.take k) := by
  have hl := h.len
  refine ⟨by rw [List.length_map, List.length_take, Nat.mul_one]; omega, ?_⟩
  rcases h.2 with ⟨e, _⟩ | ⟨g', cap', cur, e, hb, hg, hn1, hm, hs, ht⟩
  · injection e with e _ _
    cases e
  · injection e with e1 _ e3
    injection e1 with e1
    injection e1 with e1 _ _
    subst e1 e3
    refine Or.inr ⟨g, cap, cur, rfl, hb, hg, by omega, hm, hs, ?_⟩
    rw [Nat.mul_one] at ht ⊢
    rw [List.map_take, ← ht, List.take_take, Nat.min_eq_left hk]
theorem OwnD.same {w w' : World} {base n : Nat} {v : Value} {zs : List Int} (h : OwnD w base v n zs) (he : ∀ b, v.ownBlock = some b → w'.heap[b]? = w.heap[b]?) : OwnD w' base v n zs :=
  ⟨h.1, h.2.imp id fun ⟨g, cap, cur, e, hb, hg, hr⟩ => ⟨g, cap, cur, e, hb, (he g (by rw [e]; rfl)).trans hg, hr⟩⟩
theorem OwnD.lt {w : World} {base n : Nat} {v : Value} {zs : List Int} (h : OwnD w base v n zs) : ∀ b, v.ownBlock = some b → base ≤ b ∧ b < w.heap.size := World.ownsRow.lt h
theorem OwnD.keep {w w' : World} {base n : Nat} {v : Value} {zs : List Int} (h : OwnD w base v n zs) (hb : Below w.heap.size w w') : OwnD w' base v n zs := h.same (fun b e => hb.block b (h.lt b e).2)
theorem put_row9 {w : World} {base g cap q : Nat} {xs ts : List Int} (h : OwnD w base (.slice (some ⟨g, 0, none⟩) xs.length cap) xs.length xs) (hl : ts.length = xs.length) :
    OwnD (Go.Sort.putRow encZ (Go.Sort.ahead w q) g 0 ts.toArray) base (.slice (some ⟨g, 0, none⟩) xs.length cap) xs.length ts ∧ w.grownBy (Go.Sort.putRow encZ (Go.Sort.ahead w q) g 0 ts.toArray) (some g) := by
  rcases h.2 with ⟨e, _⟩ | ⟨g', cap', cur, e, hb, hg, hn1, hm, hs, ht⟩
  · injection e with e _ _
    cases e
  · injection e with e1 _ e3
    injection e1 with e1
    injection e1 with e1 _ _
    subst e1 e3
    have h1 := ownsRow_sorted_i (n := q) (os := #[]) hl hb hg hn1 hm (by simpa using hs)
    have h2 := grownBy_sorted_i (w := w) (g := g) (n := q) (os := #[]) ts.toArray
    rw [Go.Sort.grow_empty] at h1 h2
    exact ⟨h1, h2⟩
theorem holds9 {w : World} {base g cap : Nat} {xs : List Int} (h : OwnD w base (.slice (some ⟨g, 0, none⟩) xs.length cap) xs.length xs) : Go.Sort.Holds encZ w g 0 xs.toArray ∧ xs.length ≤ cap ∧ cap ≤ maxLen := by
  rcases h.2 with ⟨e, _⟩ | ⟨g', cap', cur, e, hb, hg, hn1, hm, hs, ht⟩
  · injection e with e _ _
    cases e
  · injection e with e1 _ e3
    injection e1 with e1
    injection e1 with e1 _ _
    subst e1 e3
    exact ⟨holds_of_block_i hg (by simpa using ht), hn1, hm⟩
theorem del9_any {w : World} {base g cap i : Nat} {xs : List Int} (h : OwnD w base (.slice (some ⟨g, 0, none⟩) xs.length cap) xs.length xs) (hi : i < xs.length) :
    Calls Tryz.prog 131 #[.slice (some ⟨g, 0, none⟩) xs.length cap, .int .i64 i, .int .i64 (i + 1)] w fun e w' => e = .returned (.slice (some ⟨g, 0, none⟩) (xs.length - 1) cap) ∧ OwnD w' base (.slice (some ⟨g, 0, none⟩) (xs.length - 1) cap) (xs.length - 1) (xs.take i ++ xs.drop (i + 1)) ∧ w.grownBy w' (some g) := by
  obtain ⟨h1, h2, h3⟩ := holds9 h
  unfold maxLen at h3
  have hc := AnyG.slices_Delete_int lay_delB g 0 cap i (i + 1) xs w h1 h2 (by omega) (by omega) (by omega)
  rw [show i + 1 - i = 1 by omega] at hc
  refine hc.mono ?_
  rintro e w' ⟨rfl, q, rfl⟩
  have hl : (xs.take i ++ xs.drop (i + 1)).length = xs.length - 1 := by rw [List.length_append, List.length_take, List.length_drop]; omega
  obtain ⟨k1, k2⟩ := put_row9 (q := q) (ts := xs.take i ++ xs.drop (i + 1) ++ List.replicate 1 0) h (by rw [List.length_append, hl, List.length_replicate]; omega)
  refine ⟨rfl, ?_, k2⟩
  have k3 := k1.cut (k := xs.length - 1) (by omega)
  rwa [List.take_left' hl] at k3
set_option maxHeartbeats 2000000 in
set_option maxRecDepth 100000 in
theorem find9_none (w : World) (a : Option Addr) (cap : Nat) (x : Int) :
    Calls Tryz.prog 130 #[.slice a 0 cap, .int .i64 x] w fun e w' => e = .returned (.tuple #[.int .i64 0, .bool false]) ∧ w' = w := by
  go_enter Tryz.func130, Tryz.ntmps130
  go_wp2
  go_loopg [7, 8] 0 (fun _ s7 s8 wr => s7 = .int .i64 0 ∧ s8 = .int .i64 0 ∧ wr = w)
  case atStart => exact ⟨rfl, rfl, rfl⟩
  case round =>
    obtain ⟨rfl, rfl, rfl⟩ := hrel
    go_wp2
    go_ret2
    exact ⟨rfl, rfl⟩
theorem find9_any {w : World} {a : Option Addr} {n cap : Nat} {xs : List Int} (h : Row w a n xs) (hn : n ≤ 100000) (hs : xs.Pairwise (· ≤ ·)) (x : Int) :
    Calls Tryz.prog 130 #[.slice a n cap, .int .i64 x] w fun e w' => e = .returned (.tuple #[.int .i64 (cntI xs x : Nat), .bool (decide (x ∈ xs))]) ∧ ∃ q, w' = w.drewN q := by
  have hl := h.1
  by_cases h0 : n = 0
  · subst h0
    have hx : xs = [] := List.eq_nil_of_length_eq_zero hl
    subst hx
    refine (find9_none w a cap x).mono ?_
    rintro e w' ⟨rfl, rfl⟩
    exact ⟨rfl, 0, rfl⟩
  · rcases h.2.2 with c | ⟨b, off, e, hc⟩
    · exact absurd c h0
    · subst e
      refine (AnyG.slices_BinarySearch_int lay_findB b off n cap xs x w (by omega) (by omega) (fun j hj => hc j (by omega)) (by rw [List.take_of_length_le (by omega)]; exact hs)).mono ?_
      rintro e w' ⟨rfl, q, rfl⟩
      rw [List.take_of_length_le (by omega)]
      refine ⟨?_, q, rfl⟩
      rw [show xs.contains x = decide (x ∈ xs) from by simp]
      rfl

theorem OwnD.cells {w : World} {base n cap g : Nat} {xs : List Int} (h : OwnD w base (.slice (some ⟨g, 0, none⟩) n cap) n xs) : ∃ X : List Value, Blk w g 31 X.toArray ∧ X.length = cap ∧ X.take n = xs.map (Value.int .i64) ∧ n ≤ cap ∧ cap ≤ maxLen ∧ base ≤ g := by
  rcases h.2 with ⟨e, _⟩ | ⟨g', cap', cur, e, hb, hg, hn1, hm, hs, ht⟩
  · injection e with e _ _
    cases e
  · injection e with e1 _ e3
    injection e1 with e1
    injection e1 with e1 _ _
    subst e1 e3
    refine ⟨cur.toList, by unfold Blk; rw [Array.toArray_toList]; exact hg, by rw [Array.length_toList]; omega, by rw [Nat.mul_one] at ht; exact ht, hn1, hm, hb⟩
theorem OwnD.of_cells {w : World} {base n cap g : Nat} {xs : List Int} {X : List Value} (hb : Blk w g 31 X.toArray) (hl : X.length = cap) (ht : X.take n = xs.map (Value.int .i64)) (hn : n ≤ cap) (hm : cap ≤ maxLen) (hg : base ≤ g) : OwnD w base (.slice (some ⟨g, 0, none⟩) n cap) n xs := by
  have e := congrArg List.length ht
  rw [List.length_take, List.length_map] at e
  exact ⟨by rw [List.length_map, Nat.mul_one]; omega, Or.inr ⟨g, cap, X.toArray, rfl, hg, hb, hn, hm, by simp [hl], by rw [Nat.mul_one]; exact ht⟩⟩
theorem OwnD.at_ {w : World} {base n cap g : Nat} {xs : List Int} (h : OwnD w base (.slice (some ⟨g, 0, none⟩) n cap) n xs) {j : Nat} {x : Int} (hx : xs[j]? = some x) : w.cell? ⟨g, j, none⟩ = some (.int .i64 x) := by
  obtain ⟨X, hb, hl, ht, hn, hm, _⟩ := h.cells
  have hj : j < n := by have := (List.getElem?_eq_some_iff.1 hx).1; have := h.len; omega
  rw [hb.cell]
  have : (X.take n)[j]? = (xs.map (Value.int .i64))[j]? := by rw [ht]
  rw [List.getElem?_take_of_lt hj, List.getElem?_map, hx] at this
  simpa using this
theorem OwnD.some_ {w : World} {base n cap g : Nat} {xs : List Int} (h : OwnD w base (.slice (some ⟨g, 0, none⟩) n cap) n xs) {j : Nat} (hj : j < cap) : (w.cell? ⟨g, j, none⟩).isSome = true := by
  obtain ⟨X, hb, hl, ht, hn, hm, _⟩ := h.cells
  rw [hb.cell]
  simp [hl, hj]
theorem OwnD.frozen {w : World} {base n cap g : Nat} {xs : List Int} (h : OwnD w base (.slice (some ⟨g, 0, none⟩) n cap) n xs) (j : Nat) : w.frozen? ⟨g, j, none⟩ = false := by
  obtain ⟨X, hb, _⟩ := h.cells
  exact hb.frozen j
theorem one_enc (l : List Int) : ∀ v ∈ l.map (Value.int .i64), v.oneCell' = true := fun v hv => by
  obtain ⟨y, _, rfl⟩ := List.mem_map.1 hv
  rfl
theorem take_splice {X : List Value} {xs : List Int} {n i : Nat} {c : Int} (ht : X.take n = xs.map (Value.int .i64)) (hl : n + 1 ≤ X.length) (hx : xs.length = n) (hi : i ≤ n) :
    (splice (splice X (i + 1) ((xs.drop i).map (Value.int .i64))) i [.int .i64 c]).take (n + 1) = (xs.take i ++ c :: xs.drop i).map (Value.int .i64) := by
  have hd : ((xs.drop i).map (Value.int .i64)).length = n - i := by rw [List.length_map, List.length_drop]; omega
  have h1 : X.take i = (xs.take i).map (Value.int .i64) := by rw [List.map_take, ← ht, List.take_take, Nat.min_eq_left hi]
  have h2 : (X.take (i + 1) ++ (xs.drop i).map (Value.int .i64) ++ X.drop (i + 1 + ((xs.drop i).map (Value.int .i64)).length)).take i = X.take i := by
    rw [List.append_assoc, List.take_append_of_le_length (by rw [List.length_take]; omega), List.take_take, Nat.min_eq_left (by omega)]
  have h3 : (X.take (i + 1) ++ (xs.drop i).map (Value.int .i64) ++ X.drop (i + 1 + ((xs.drop i).map (Value.int .i64)).length)).drop (i + 1) = (xs.drop i).map (Value.int .i64) ++ X.drop (n + 1) := by
    rw [List.append_assoc, List.drop_append_of_le_length (by rw [List.length_take]; omega), List.drop_take, Nat.sub_self, List.take_zero, List.nil_append, hd, show i + 1 + (n - i) = n + 1 by omega]
  unfold splice
  rw [show i + [Value.int .i64 c].length = i + 1 from rfl, h2, h3, h1, List.map_append, List.map_cons]
  rw [List.append_assoc, show ([Value.int .i64 c] ++ ((xs.drop i).map (Value.int .i64) ++ X.drop (n + 1))) = (Value.int .i64 c :: (xs.drop i).map (Value.int .i64)) ++ X.drop (n + 1) from rfl, ← List.append_assoc]
  rw [List.take_append_of_le_length (by rw [List.length_append, List.length_map, List.length_take, List.length_cons, hd]; omega)]
  exact List.take_of_length_le (by rw [List.length_append, List.length_map, List.length_take, List.length_cons, hd]; omega)

set_option maxHeartbeats 4000000 in
set_option maxRecDepth 100000 in
theorem ins9_shift {w : World} {base b n cap i vb : Nat} {xs : List Int} {c : Int} (h : OwnD w base (.slice (some ⟨b, 0, none⟩) n cap) n xs) (hv : Blk w vb 31 #[.int .i64 c]) (hvb : vb ≠ b) (hi : i < n) (hroom : n + 1 ≤ cap) :
    Calls Tryz.prog 132 #[.slice (some ⟨b, 0, none⟩) n cap, .int .i64 i, .slice (some ⟨vb, 0, none⟩) 1 1] w fun e w' =>
      e = .returned (.slice (some ⟨b, 0, none⟩) (n + 1) cap) ∧ w' = (w.drew.setCells b (i + 1) ((xs.drop i).map (Value.int .i64))).setCells b i [.int .i64 c] := by
  have hlen := h.len
  have mixed : Tryz.prog.follows Departure.mixedOrders = true := by kernel_rfl
  obtain ⟨X, hbk, hXl, _, _, hm, _⟩ := h.cells
  unfold maxLen at hm
  have hz2 : ¬ ((i : Int) = (n : Int)) := by omega
  have hsz : (Tryz.prog.info? 31).map (·.size) = some 1 := by
    obtain ⟨i0, hi0, h0, h1, h2⟩ := info_parts id_info
    rw [hi0]; simp [h1]
  have hsa : w.shape? vb = some (31, 1) := by
    unfold World.shape?
    rw [show w.heap[vb]? = _ from hv]
    rfl
  have hsb : w.shape? b = some (31, cap) := by
    unfold World.shape?
    rw [show w.heap[b]? = _ from hbk]
    simp [hXl]
  have hov : ∀ lb cb, (callFunc 165 #[.slice (some ⟨vb, 0, none⟩) 1 1, .slice (some ⟨b, i + 1, none⟩) lb cb]).run Tryz.prog w = .ok (.value (.bool false)) w := fun lb cb => by
    rw [run_callFunc_extern Tryz.func165 (by kernel_rfl) (by kernel_rfl) (by kernel_rfl) (e := Extern.SlicesOverlaps.overlaps #[53, 53] #[4]) (by kernel_rfl),
      Lib.run_overlaps_apart w 53 4 31 Tryz.underlying53 1 Tryz.sizeOf31 ⟨vb, 0, none⟩ ⟨b, i + 1, none⟩ 1 1 lb cb hvb 31 31 1 cap hsa hsb (by omega) (hv.frozen 0) (hv.frozen 1)]
    rfl
  have hdl : ((xs.drop i).map (Value.int .i64)).length = n - i := by rw [List.length_map, List.length_drop, hlen]
  have hw1 : IntKind.i64.wrap ((i : Int) + 1) = (i : Int) + 1 := by rw [IntKind.wrap_i64]; omega
  have hb1 : (0 : Int) ≤ (i : Int) + 1 := by omega
  have hin : i ≤ n := by omega
  have htn : ((i : Int) + 1).toNat = i + 1 := by omega
  have hb2 : ¬ (cap = i + 1) := by omega
  have hb3 : (i : Int) ≤ (n : Int) + 1 := by omega
  have hb4 : ¬ (cap = i) := by omega
  have hr1 : ¬ ((cap : Int) < (n : Int) + 1) := by omega
  obtain ⟨D, hD⟩ : ∃ D, D = (xs.drop i).map (Value.int .i64) := ⟨_, rfl⟩
  have hcp1 : ∀ ty dc sc, (Builtin.copy_ #[53, 53] ty #[.slice (some ⟨b, i + 1, none⟩) (n - i) dc, .slice (some ⟨b, i, none⟩) (n + 1 - i) sc]).run Tryz.prog w.drew = .ok (goInt D.length) (w.drew.setCells b (i + 1) D) := fun ty dc sc =>
    run_copy_cells w.drew _ _ ty 31 b (i + 1) (n - i) dc ⟨b, i, none⟩ (n + 1 - i) sc D Tryz.underlying53 hsz (by rw [hD, hdl]; simp only [Nat.min_def]; split <;> omega)
      (fun j v hj => by
        rw [Addr.add_lit]
        rw [hD, List.getElem?_map, List.getElem?_drop] at hj
        cases hq : xs[i + j]? with
        | none => rw [hq] at hj; cases hj
        | some y =>
          rw [hq] at hj
          injection hj with hj
          rw [← hj]
          exact h.at_ hq)
      (fun j hj => by rw [hD, hdl] at hj; exact h.some_ (by omega)) (fun j hj => h.frozen _) (by rw [hD]; exact one_enc _)
  obtain ⟨W1, hW1⟩ : ∃ W1, W1 = w.drew.setCells b (i + 1) D := ⟨_, rfl⟩
  have hsp1 : ∀ j, j < n + 1 → (W1.cell? ⟨b, j, none⟩).isSome = true := fun j hj => by
    rw [hW1]
    exact isSome_setCells b _ _ _ (fun q hq => by rw [hD, hdl] at hq; exact h.some_ (by omega)) _ (h.some_ (by omega))
  have hcp2 : ∀ (W : World), (∀ x, W.cell? x = W1.cell? x) → (∀ x, W.frozen? x = W1.frozen? x) → ∀ ty dc, (Builtin.copy_ #[53, 53] ty #[.slice (some ⟨b, i, none⟩) (n + 1 - i) dc, .slice (some ⟨vb, 0, none⟩) 1 1]).run Tryz.prog W = .ok (goInt 1) (W.setCells b i [.int .i64 c]) := fun W hWc hWf ty dc =>
    run_copy_cells W _ _ ty 31 b i (n + 1 - i) dc ⟨vb, 0, none⟩ 1 1 [.int .i64 c] Tryz.underlying53 hsz (by show 1 = _; simp only [Nat.min_def]; split <;> omega)
      (fun j v hj => by
        rw [Addr.add_lit, hWc, hW1, World.cell?_setCells_out b _ _ _ _ (fun h _ => absurd h hvb), Nat.zero_add]
        have := hv.cell j
        rw [show w.drew.cell? ⟨vb, j, none⟩ = w.cell? ⟨vb, j, none⟩ from rfl, this]
        simpa using hj)
      (fun j hj => by rw [hWc]; exact hsp1 _ (by simp at hj; omega)) (fun j hj => by rw [hWf, hW1, World.frozen?_setCells]; exact h.frozen _) (by intro u hu; simp at hu; subst hu; rfl)
  rw [← hW1] at hcp1
  rw [← hD, ← hW1]
  clear hD hsp1 hsa hsb hsz hdl hbk hXl
  go_enter Tryz.func132, Tryz.ntmps132
  go_wp2_with (simp only [hov])
  go_region_law_o (refine step_copy_runI rfl _ _ 53 53 rfl _ _ (by simp [Act.eval, Act.put]) (by simp [Act.eval, Act.put]) (hcp1 _ _ _) ?_)
  go_wp2_with (at_builtin; refine wpList_copy_runI _ rfl _ _ 53 53 rfl _ _ rfl rfl (hcp2 _ (fun _ => rfl) (fun _ => rfl) _ _) ?_)
  go_ret
  exact ⟨rfl, by rw [hW1]⟩

set_option maxHeartbeats 4000000 in
set_option maxRecDepth 100000 in
theorem ins9_end {w : World} {base n vb : Nat} {v : Value} {xs : List Int} {c : Int} (h : OwnD w base v n xs) (hbs : base ≤ w.heap.size) (hv : Blk w vb 31 #[.int .i64 c]) (hn : n ≤ 100000) :
    Calls Tryz.prog 132 #[v, .int .i64 n, .slice (some ⟨vb, 0, none⟩) 1 1] w fun e w' =>
      ∃ v', e = .returned v' ∧ OwnD w' base v' (n + 1) (xs ++ [c]) ∧ w.grownBy w' v.ownBlock ∧ (v'.ownBlock = v.ownBlock ∨ v'.ownBlock = some w.heap.size) := by
  obtain ⟨i0, hi0, hz0, hz1, hz2⟩ := info_parts id_info
  have HI := Lib.hid (And.intro hi0 (And.intro hz0 (And.intro hz1 hz2)))
  have HO := Lib.hid h
  have HV : Hid (∀ j u, [Value.int .i64 c][j]? = some u → w.cell? ((⟨vb, 0, none⟩ : Addr).add j) = some u) := Lib.hid (fun j u hj => by
    rw [Addr.add_lit, Nat.zero_add, hv.cell j]
    simpa using hj)
  clear hi0 hz0 hz1 hz2 hv
  rcases h.2 with ⟨rfl, h0⟩ | ⟨g, cap, cur, rfl, hb, hg, hn1, hm, hs, ht⟩
  · subst h0
    clear h
    go_enter Tryz.func132, Tryz.ntmps132
    go_wp2_with (at_builtin; refine wpList_append_own_at _ rfl (.tmp 23) (.tmp 24) 53 rfl base 31 i0 (.int .i64 0) 1 8 Tryz.underlying53 HI.out.1 HI.out.2.1 HI.out.2.2.1 HI.out.2.2.2 rfl (by decide) _ _ _ rfl HO.out ⟨vb, 0, none⟩ 1 1 [.int .i64 c] rfl rfl HV.out (by intro u hu; simp at hu; subst hu; rfl) (by unfold maxLen; omega) (by omega) hbs ?_)
    intro v' w' k1 k2 _ k3
    have K : Hid (OwnD w' base v' (0 + 1) (xs ++ [c]) ∧ w.grownBy w' (Value.slice none 0 0).ownBlock ∧ (v'.ownBlock = (Value.slice none 0 0).ownBlock ∨ v'.ownBlock = some w.heap.size)) := Lib.hid ⟨by unfold OwnD; rw [List.map_append]; exact k1, k2, k3⟩
    clear k1 k2 k3
    go_wp2
    go_ret
    exact ⟨_, rfl, K.out⟩
  · clear hb hg hs ht h
    unfold maxLen at hm
    go_enter Tryz.func132, Tryz.ntmps132
    go_wp2_with (at_builtin; refine wpList_append_own_at _ rfl (.tmp 23) (.tmp 24) 53 rfl base 31 i0 (.int .i64 0) 1 8 Tryz.underlying53 HI.out.1 HI.out.2.1 HI.out.2.2.1 HI.out.2.2.2 rfl (by decide) _ _ _ rfl HO.out ⟨vb, 0, none⟩ 1 1 [.int .i64 c] rfl rfl HV.out (by intro u hu; simp at hu; subst hu; rfl) (by unfold maxLen; omega) (by omega) hbs ?_)
    all_goals (
        intro v' w' k1 k2 _ k3
        have K : Hid (OwnD w' base v' (n + 1) (xs ++ [c]) ∧ w.grownBy w' (Value.slice (some ⟨g, 0, none⟩) n cap).ownBlock ∧ (v'.ownBlock = (Value.slice (some ⟨g, 0, none⟩) n cap).ownBlock ∨ v'.ownBlock = some w.heap.size)) := Lib.hid ⟨by unfold OwnD; rw [List.map_append]; exact k1, k2, k3⟩
        clear k1 k2 k3
        go_wp2
        go_ret
        exact ⟨_, rfl, K.out⟩)

set_option maxHeartbeats 4000000 in
set_option maxRecDepth 100000 in
theorem ins9_grow {w : World} {base b n cap i vb : Nat} {xs : List Int} {c : Int} (h : OwnD w base (.slice (some ⟨b, 0, none⟩) n cap) n xs) (hv : Blk w vb 31 #[.int .i64 c]) (hi : i < n) (hroom : cap < n + 1) (hn : n ≤ 100000) :
    Calls Tryz.prog 132 #[.slice (some ⟨b, 0, none⟩) n cap, .int .i64 i, .slice (some ⟨vb, 0, none⟩) 1 1] w fun e w' =>
      ∃ (G : Nat) (ROW : List Value), e = .returned (.slice (some ⟨w.heap.size, 0, none⟩) (n + 1) G) ∧ n + 1 ≤ G ∧ G ≤ maxLen ∧ ROW.length = G ∧ ROW.take i = (xs.take i).map (Value.int .i64) ∧
        w' = (((w.alloc (.cells ROW.toArray 31)).drew.setCells w.heap.size i [.int .i64 c]).drew).setCells w.heap.size (i + 1) ((xs.drop i).map (Value.int .i64)) := by
  have hlen := h.len
  have mixed : Tryz.prog.follows Departure.mixedOrders = true := by kernel_rfl
  obtain ⟨X, hbk, hXl, hXt, hnc, hm, _⟩ := h.cells
  unfold maxLen at hm
  obtain ⟨i0, hi0, hz0, hzs, hzb⟩ := info_parts id_info
  have hz2 : ¬ ((i : Int) = (n : Int)) := by omega
  have hz3 : (cap : Int) < (n : Int) + 1 := by omega
  have hsz : (Tryz.prog.info? 31).map (·.size) = some 1 := by rw [hi0]; simp [hzs]
  have hbw := hbk.lt
  have hvw := hv.lt
  have hkk : (n : Int) + 1 - (i : Int) = ((n + 1 - i : Nat) : Int) := by omega
  have hik : i + (n + 1 - i) = n + 1 := by omega
  obtain ⟨A, hA⟩ : ∃ A, A = (xs.take i).map (Value.int .i64) := ⟨_, rfl⟩
  have hAl : A.length = i := by rw [hA, List.length_map, List.length_take]; omega
  have hold : (Builtin.firstCells i0.size i (.slice (some ⟨b, 0, none⟩) i cap)).run Tryz.prog w.drew = .ok A.toArray w.drew := by
    rw [hzs]
    exact run_firstCells_some w.drew 1 i ⟨b, 0, none⟩ i cap A (by omega) (fun j v hj => by
      rw [Addr.add_lit, Nat.zero_add]
      rw [hA, List.getElem?_map] at hj
      cases hq : (xs.take i)[j]? with
      | none => rw [hq] at hj; cases hj
      | some y =>
        rw [hq] at hj
        injection hj with hj
        rw [← hj]
        rw [List.getElem?_take] at hq
        split at hq
        · exact h.at_ hq
        · cases hq)
  have hrz : ∀ ty, (Builtin.append_ #[53, 3] ty #[.slice (some ⟨b, 0, none⟩) i cap, .int .i64 ((n : Int) + 1 - (i : Int))]).run Tryz.prog w =
      .ok (.slice (some ⟨w.heap.size, 0, none⟩) (n + 1) (grownCap w (n + 1) cap 31)) (w.drew.alloc (.cells (A.toArray ++ Builtin.zeroCells (Value.int .i64 0).cells (n + 1 - i) ++ Builtin.zeroCells (Value.int .i64 0).cells (grownCap w (n + 1) cap 31 - (n + 1))) 31)) := fun ty => by
    have h := Lib.run_append_grow_zeros w 53 3 ty 31 i0 _ .i64 .i64 Tryz.underlying53 Tryz.underlying3 hi0 hz0 (some ⟨b, 0, none⟩) i cap A hold (n + 1 - i) (by omega) (by omega) (by omega) (by omega) (by rw [hzb]; omega) (by rw [hzb, hik]; exact growslice_fits hroom (by omega))
    rw [hik] at h
    rw [hkk]
    exact h
  obtain ⟨G, hG⟩ : ∃ G, G = grownCap w (n + 1) cap 31 := ⟨_, rfl⟩
  have hGn : n + 1 ≤ G := by rw [hG]; exact grownCap_ge w _ _ _
  have hG63 : G ≤ 9223372036854775807 := by
    have := grownCap_le_maxLen w (n + 1) cap 31 (by unfold maxLen; omega)
    rw [← hG] at this
    unfold maxLen at this
    omega
  obtain ⟨ROW, hROW⟩ : ∃ ROW : List Value, ROW = (A.toArray ++ Builtin.zeroCells (Value.int .i64 0).cells (n + 1 - i) ++ Builtin.zeroCells (Value.int .i64 0).cells (G - (n + 1))).toList := ⟨_, rfl⟩
  have hRO : A.toArray ++ Builtin.zeroCells (Value.int .i64 0).cells (n + 1 - i) ++ Builtin.zeroCells (Value.int .i64 0).cells (G - (n + 1)) = ROW.toArray := by rw [hROW, Array.toArray_toList]
  rw [← hG] at hrz
  simp only [hRO] at hrz
  have hRl : ROW.length = G := by
    rw [hROW]
    simp [Builtin.zeroCells, Value.cells, hAl]
    omega
  have HRt : Hid (ROW.take i = (xs.take i).map (Value.int .i64)) := Lib.hid (by
    rw [hROW, ← hA, Array.toList_append, Array.toList_append, List.append_assoc, List.take_append_of_le_length (by simp [hAl]), List.take_of_length_le (by simp [hAl])])
  have HRl := Lib.hid (And.intro hGn (And.intro hG63 hRl))
  obtain ⟨W1, hW1⟩ : ∃ W1, W1 = w.drew.alloc (.cells ROW.toArray 31) := ⟨_, rfl⟩
  rw [← hW1] at hrz
  have hN : ∀ j, j < n + 1 → (W1.cell? ⟨w.heap.size, j, none⟩).isSome = true := fun j hj => by
    rw [hW1, World.cell?_alloc_at (w := w.drew) ROW.toArray _ w.heap.size j rfl, Array.getElem?_eq_getElem (by simp; omega)]; rfl
  have hNf : ∀ j, W1.frozen? ⟨w.heap.size, j, none⟩ = false := fun j => by rw [hW1]; exact World.frozen?_alloc_at (w := w.drew) ROW.toArray _ w.heap.size j rfl
  have hOb : ∀ j v, w.cell? ⟨b, j, none⟩ = some v → W1.cell? ⟨b, j, none⟩ = some v := fun j v h => by rw [hW1, World.cell?_alloc_past (w := w.drew) _ b j hbw]; exact h
  have hOv : ∀ j v, w.cell? ⟨vb, j, none⟩ = some v → W1.cell? ⟨vb, j, none⟩ = some v := fun j v h => by rw [hW1, World.cell?_alloc_past (w := w.drew) _ vb j hvw]; exact h
  have hcpA : ∀ (W : World), (∀ x, W.cell? x = W1.cell? x) → (∀ x, W.frozen? x = W1.frozen? x) → ∀ ty dc, (Builtin.copy_ #[53, 53] ty #[.slice (some ⟨w.heap.size, i, none⟩) (n + 1 - i) dc, .slice (some ⟨vb, 0, none⟩) 1 1]).run Tryz.prog W = .ok (goInt 1) (W.setCells w.heap.size i [.int .i64 c]) := fun W hWc hWf ty dc =>
    run_copy_cells W _ _ ty 31 w.heap.size i (n + 1 - i) dc ⟨vb, 0, none⟩ 1 1 [.int .i64 c] Tryz.underlying53 hsz (by show 1 = _; simp only [Nat.min_def]; split <;> omega)
      (fun j v hj => by
        rw [Addr.add_lit, hWc, Nat.zero_add]
        refine hOv j v ?_
        rw [hv.cell j]
        simpa using hj)
      (fun j hj => by rw [hWc]; exact hN _ (by simp at hj; omega)) (fun j hj => by rw [hWf]; exact hNf _) (by intro u hu; simp at hu; subst hu; rfl)
  have hGi : ¬ (G = i) := by omega
  have hGim : ¬ (G = i + 1) := by omega
  have hci : ¬ (cap = i) := by omega
  have hbN : b ≠ w.heap.size := by omega
  obtain ⟨D, hD⟩ : ∃ D, D = (xs.drop i).map (Value.int .i64) := ⟨_, rfl⟩
  have hdl : D.length = n - i := by rw [hD, List.length_map, List.length_drop, hlen]
  have hcpB : ∀ (W : World), (∀ x, W.cell? x = (W1.setCells w.heap.size i [.int .i64 c]).cell? x) → (∀ x, W.frozen? x = (W1.setCells w.heap.size i [.int .i64 c]).frozen? x) → ∀ ty dc sc, (Builtin.copy_ #[53, 53] ty #[.slice (some ⟨w.heap.size, i + 1, none⟩) (n - i) dc, .slice (some ⟨b, i, none⟩) (n - i) sc]).run Tryz.prog W = .ok (goInt D.length) (W.setCells w.heap.size (i + 1) D) := fun W hWc hWf ty dc sc =>
    run_copy_cells W _ _ ty 31 w.heap.size (i + 1) (n - i) dc ⟨b, i, none⟩ (n - i) sc D Tryz.underlying53 hsz (by rw [hdl]; simp only [Nat.min_def]; split <;> omega)
      (fun j v hj => by
        rw [Addr.add_lit, hWc, World.cell?_setCells_out _ _ _ _ _ (fun h _ => absurd h hbN)]
        refine hOb _ v ?_
        rw [hD, List.getElem?_map, List.getElem?_drop] at hj
        cases hq : xs[i + j]? with
        | none => rw [hq] at hj; cases hj
        | some y =>
          rw [hq] at hj
          injection hj with hj
          rw [← hj]
          exact h.at_ hq)
      (fun j hj => by rw [hWc]; exact isSome_setCells _ _ _ _ (fun t ht => hN _ (by simp at ht; omega)) _ (hN _ (by omega)))
      (fun j hj => by rw [hWf, World.frozen?_setCells]; exact hNf _) (by rw [hD]; exact one_enc _)
  subst hW1
  have hE1 : ∀ x, ((w.alloc (.cells ROW.toArray 31)).drew).cell? x = (w.drew.alloc (.cells ROW.toArray 31)).cell? x := fun x => rfl
  have hE2 : ∀ x, ((w.alloc (.cells ROW.toArray 31)).drew).frozen? x = (w.drew.alloc (.cells ROW.toArray 31)).frozen? x := fun x => rfl
  have hF1 : ∀ x, (((w.alloc (.cells ROW.toArray 31)).drew.setCells w.heap.size i [.int .i64 c]).drew).cell? x = ((w.drew.alloc (.cells ROW.toArray 31)).setCells w.heap.size i [.int .i64 c]).cell? x := fun x => rfl
  have hF2 : ∀ x, (((w.alloc (.cells ROW.toArray 31)).drew.setCells w.heap.size i [.int .i64 c]).drew).frozen? x = ((w.drew.alloc (.cells ROW.toArray 31)).setCells w.heap.size i [.int .i64 c]).frozen? x := fun x => rfl
  have hw1 : IntKind.i64.wrap ((i : Int) + 1) = (i : Int) + 1 := by rw [IntKind.wrap_i64]; omega
  have hb1 : (0 : Int) ≤ (i : Int) + 1 := by omega
  have hin : i ≤ n := by omega
  have htn : ((i : Int) + 1).toNat = i + 1 := by omega
  have hb3 : (i : Int) ≤ (n : Int) := by omega
  rw [← hD]
  clear hkk hik hold hROW hRO hG hRl hA hAl hN hNf hOb hOv hXt hXl hbk hsz hzs hzb hi0 hz0 hD
  go_enter Tryz.func132, Tryz.ntmps132
  go_wp2_with (first
    | (at_builtin; refine Lib.wpList_append_run _ rfl _ _ _ _ rfl _ _ rfl rfl _ _ (hrz _) ?_)
    | (at_builtin; refine wpList_copy_runI _ rfl _ _ 53 53 rfl _ _ rfl rfl (hcpA _ hE1 hE2 _ _) ?_))
  go_region_law_o (refine step_copy_runI rfl _ _ 53 53 rfl (.slice (some ⟨w.heap.size, i + 1, none⟩) (n - i) (G - (i + 1))) (.slice (some ⟨b, i, none⟩) (n - i) (cap - i)) (by simp [Act.eval, Act.put]) (by simp [Act.eval, Act.put]) (hcpB _ hF1 hF2 3 (G - (i + 1)) (cap - i)) ?_)
  go_wp2
  go_ret
  exact ⟨G, ROW, rfl, HRl.out.1, by unfold maxLen; exact HRl.out.2.1, HRl.out.2.2, HRt.out, rfl⟩

end Go.Proofs.YtkondkajpmafkaaGreat
