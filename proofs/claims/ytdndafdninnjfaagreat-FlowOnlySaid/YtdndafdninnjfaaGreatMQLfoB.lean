/-
  The forest's lists of children, rising: what freeing, setting and dropping makes of them.
-/
import Derived.Test.YtdndafdninnjfaaGreatMQLfoA
namespace Go.Proofs.YtdndafdninnjfaaGreat
open Go.RowKit

theorem up_nod {l : List Int} (h : l.Pairwise (· < ·)) : l.Nodup := h.imp (fun {a b} c => by omega)
theorem up_ext {l m : List Int} (hl : l.Pairwise (· < ·)) (hm : m.Pairwise (· < ·)) (h : ∀ z, z ∈ l ↔ z ∈ m) : l = m :=
  List.Perm.eq_of_pairwise (le := fun a b => a < b) (fun a b _ _ h1 h2 => by omega) hl hm ((List.perm_ext_iff_of_nodup (up_nod hl) (up_nod hm)).2 h)
theorem chF_up {L : FT} (hn : (L.map Prod.fst).Nodup) (x : Int) : (chF L x).Pairwise (· < ·) := by
  have h1 : (chF L x).Pairwise (· ≤ ·) := sort_sorted _ [] List.Pairwise.nil
  have h2 : (chF L x).Pairwise (· ≠ ·) := chF_nod hn x
  exact (h1.and h2).imp (fun {a b} c => by omega)
theorem up_le {l : List Int} (h : l.Pairwise (· < ·)) : l.Pairwise (· ≤ ·) := h.imp (fun {a b} c => by omega)
/-- the place of one that is there -/
theorem cnt_at {c : Int} : ∀ {l : List Int}, l.Pairwise (· < ·) → c ∈ l → l[l.countP (fun z => decide (z < c))]? = some c
  | [], _, h => by cases h
  | a :: l, hp, h => by
    rw [List.pairwise_cons] at hp
    rcases List.mem_cons.1 h with rfl | h
    · have h0 : (c :: l).countP (fun z => decide (z < c)) = 0 := List.countP_eq_zero.2 (fun z hz => by
        rcases List.mem_cons.1 hz with rfl | hz
        · simp
        · have := hp.1 z hz; simp; omega)
      rw [h0]
      rfl
    · have hlt := hp.1 c h
      rw [List.countP_cons_of_pos (by simpa using hlt), List.getElem?_cons_succ]
      exact cnt_at hp.2 h
theorem cnt_split {c : Int} : ∀ {l : List Int}, l.Pairwise (· < ·) → (∀ z ∈ l.take (l.countP (fun z => decide (z < c))), z < c) ∧ ∀ z ∈ l.drop (l.countP (fun z => decide (z < c))), ¬ z < c
  | [], _ => ⟨fun z h => by simp at h, fun z h => by simp at h⟩
  | a :: l, hp => by
    rw [List.pairwise_cons] at hp
    by_cases hlt : a < c
    · rw [List.countP_cons_of_pos (by simpa using hlt), List.take_succ_cons, List.drop_succ_cons]
      obtain ⟨h1, h2⟩ := cnt_split hp.2
      exact ⟨fun z hz => (List.mem_cons.1 hz).elim (fun e => by rw [e]; exact hlt) (h1 z), h2⟩
    · have h0 : (a :: l).countP (fun z => decide (z < c)) = 0 := List.countP_eq_zero.2 (fun z hz => by
        rcases List.mem_cons.1 hz with rfl | hz
        · simpa using hlt
        · have := hp.1 z hz; simp; omega)
      rw [h0]
      refine ⟨fun z hz => by simp at hz, fun z hz => ?_⟩
      rw [List.drop_zero] at hz
      rcases List.mem_cons.1 hz with rfl | hz
      · exact hlt
      · have := hp.1 z hz; omega
def cntI (l : List Int) (c : Int) : Nat := l.countP (fun z => decide (z < c))
theorem cntI_le (l : List Int) (c : Int) : cntI l c ≤ l.length := List.countP_le_length
theorem cntI_lt {l : List Int} {c : Int} (hp : l.Pairwise (· < ·)) (h : c ∈ l) : cntI l c < l.length := (List.getElem?_eq_some_iff.1 (cnt_at hp h)).1
def cutI (l : List Int) (c : Int) : List Int := l.take (cntI l c) ++ l.drop (cntI l c + 1)
def putI (l : List Int) (c : Int) : List Int := l.take (cntI l c) ++ c :: l.drop (cntI l c)
theorem at_split {l : List Int} {i : Nat} {c : Int} (h : l[i]? = some c) : l = l.take i ++ c :: l.drop (i + 1) := by
  obtain ⟨hi, e⟩ := List.getElem?_eq_some_iff.1 h
  rw [← e, ← List.drop_eq_getElem_cons hi, List.take_append_drop]
theorem cutI_len {l : List Int} {c : Int} (hp : l.Pairwise (· < ·)) (h : c ∈ l) : (cutI l c).length = l.length - 1 := by
  have := cntI_lt hp h
  unfold cutI
  rw [List.length_append, List.length_take, List.length_drop]
  omega
theorem putI_len (l : List Int) (c : Int) : (putI l c).length = l.length + 1 := by
  have := cntI_le l c
  unfold putI
  rw [List.length_append, List.length_take, List.length_cons, List.length_drop]
  omega
theorem cutI_up {l : List Int} {c : Int} (hp : l.Pairwise (· < ·)) : (cutI l c).Pairwise (· < ·) := by
  unfold cutI
  rw [← List.eraseIdx_eq_take_drop_succ]
  exact hp.sublist (List.eraseIdx_sublist _ _)
theorem mem_cutI {l : List Int} {c : Int} (hp : l.Pairwise (· < ·)) (h : c ∈ l) {z : Int} : z ∈ cutI l c ↔ z ∈ l ∧ z ≠ c := by
  have e := at_split (cnt_at hp h)
  have hp2 := hp
  rw [e, List.pairwise_append] at hp2
  obtain ⟨h1, h2, h3⟩ := hp2
  rw [List.pairwise_cons] at h2
  unfold cutI cntI
  constructor
  · intro hz
    rcases List.mem_append.1 hz with hz | hz
    · exact ⟨List.mem_of_mem_take hz, fun q => by have := h3 z hz c List.mem_cons_self; omega⟩
    · exact ⟨List.mem_of_mem_drop hz, fun q => by have := h2.1 z hz; omega⟩
  · rintro ⟨hz, hne⟩
    rw [e] at hz
    rcases List.mem_append.1 hz with hz | hz
    · exact List.mem_append_left _ hz
    · rcases List.mem_cons.1 hz with hz | hz
      · exact absurd hz hne
      · exact List.mem_append_right _ hz
theorem putI_up {l : List Int} {c : Int} (hp : l.Pairwise (· < ·)) (h : c ∉ l) : (putI l c).Pairwise (· < ·) := by
  obtain ⟨h1, h2⟩ := cnt_split (c := c) hp
  have h2' : ∀ z ∈ l.drop (cntI l c), c < z := fun z hz => by
    have q1 := h2 z hz
    have q2 : z ≠ c := fun e => h (e ▸ List.mem_of_mem_drop hz)
    omega
  unfold putI
  refine List.pairwise_append.2 ⟨hp.sublist (List.take_sublist _ _), List.pairwise_cons.2 ⟨h2', hp.sublist (List.drop_sublist _ _)⟩, fun a ha b hb => ?_⟩
  have ha' := h1 a ha
  rcases List.mem_cons.1 hb with rfl | hb
  · exact ha'
  · have := h2' b hb; omega
theorem mem_putI {l : List Int} {c z : Int} : z ∈ putI l c ↔ z = c ∨ z ∈ l := by
  unfold putI
  rw [List.mem_append, List.mem_cons]
  constructor
  · rintro (h | h | h)
    · exact Or.inr (List.mem_of_mem_take h)
    · exact Or.inl h
    · exact Or.inr (List.mem_of_mem_drop h)
  · rintro (h | h)
    · exact Or.inr (Or.inl h)
    · rw [← List.take_append_drop (cntI l c) l, List.mem_append] at h
      exact h.imp id Or.inr
/-! children behind an act -/
section
variable {L : FT} {c p x : Int}
theorem ch_free_other (hn : (L.map Prod.fst).Nodup) (h : parO L c = some p) (hx : x ≠ p) : chF (freeF L c) x = chF L x := by
  refine up_ext (chF_up (free_nod hn c) x) (chF_up hn x) (fun z => ?_)
  rw [mem_chF (free_nod hn c), mem_chF hn, par_free]
  by_cases q : z = c
  · rw [if_pos q, q, h]
    exact ⟨fun k => (by cases k), fun k => (by injection k with k; exact absurd k.symm hx)⟩
  · rw [if_neg q]
theorem ch_free_self (hn : (L.map Prod.fst).Nodup) (h : parO L c = some p) : chF (freeF L c) p = cutI (chF L p) c := by
  have hc : c ∈ chF L p := (mem_chF hn).2 h
  refine up_ext (chF_up (free_nod hn c) p) (cutI_up (chF_up hn p)) (fun z => ?_)
  rw [mem_chF (free_nod hn c), mem_cutI (chF_up hn p) hc, mem_chF hn, par_free]
  by_cases q : z = c
  · rw [if_pos q]
    exact ⟨fun k => (by cases k), fun k => absurd q k.2⟩
  · rw [if_neg q]
    exact ⟨fun k => ⟨k, q⟩, fun k => k.1⟩
theorem free_none (h : parO L c = none) : freeF L c = L := by
  unfold freeF
  refine List.filter_eq_self.2 (fun q hq => ?_)
  by_cases e : q.1 = c
  · exfalso
    unfold parO at h
    have : L.find? (fun p => p.1 == c) ≠ none := fun k => by
      have := List.find?_eq_none.1 k q hq
      simp [e] at this
    cases k : L.find? (fun p => p.1 == c) with
    | none => exact this k
    | some v => rw [k] at h; cases h
  · simpa using e
theorem free_twice (L : FT) (c : Int) : freeF (freeF L c) c = freeF L c := free_none (by rw [par_free, if_pos rfl])
theorem ch_set_other (hn : (L.map Prod.fst).Nodup) (h : parO L c = none) (hx : x ≠ p) : chF (setF L c p) x = chF L x := by
  refine up_ext (chF_up (set_nod hn c p) x) (chF_up hn x) (fun z => ?_)
  rw [mem_chF (set_nod hn c p), mem_chF hn, par_set]
  by_cases q : z = c
  · rw [if_pos q, q, h]
    exact ⟨fun k => (by injection k with k; exact absurd k.symm hx), fun k => (by cases k)⟩
  · rw [if_neg q]
theorem ch_set_self (hn : (L.map Prod.fst).Nodup) (h : parO L c = none) : chF (setF L c p) p = putI (chF L p) c := by
  have hc : c ∉ chF L p := fun k => by rw [mem_chF hn, h] at k; cases k
  refine up_ext (chF_up (set_nod hn c p) p) (putI_up (chF_up hn p) hc) (fun z => ?_)
  rw [mem_chF (set_nod hn c p), mem_putI, mem_chF hn, par_set]
  by_cases q : z = c
  · rw [if_pos q]
    exact ⟨fun _ => Or.inl q, fun _ => rfl⟩
  · rw [if_neg q]
    exact ⟨Or.inr, fun k => k.elim (fun e => absurd e q) id⟩
theorem par_frees (z : Int) : ∀ (xs : List Int) (L : FT), parO (freeS L xs) z = if z ∈ xs then none else parO L z
  | [], L => by simp [freeS]
  | a :: xs, L => by
    have ih := par_frees z xs (freeF L a)
    show parO (freeS (freeF L a) xs) z = _
    rw [ih, par_free]
    by_cases q : z ∈ xs
    · rw [if_pos q, if_pos (List.mem_cons_of_mem _ q)]
    · rw [if_neg q]
      by_cases e : z = a
      · rw [if_pos e, if_pos (by rw [e]; exact List.mem_cons_self)]
      · rw [if_neg e, if_neg (fun k => (List.mem_cons.1 k).elim e q)]
theorem not_own {L : FT} (h : WF L) (x : Int) : parO L x ≠ some x := fun e => by
  have := no_ring h x
  rw [abv_some h e] at this
  exact this List.mem_cons_self
end
/-! ranges -/
theorem free_rng {L : FT} (h : ∀ p ∈ L, Rg p.1 ∧ Rg p.2) (c : Int) : ∀ p ∈ freeF L c, Rg p.1 ∧ Rg p.2 := fun p hp => h p (List.mem_filter.1 hp).1
theorem set_rng {L : FT} (h : ∀ p ∈ L, Rg p.1 ∧ Rg p.2) {c p : Int} (hc : Rg c) (hp : Rg p) : ∀ q ∈ setF L c p, Rg q.1 ∧ Rg q.2 := fun q hq => by
  unfold setF at hq
  rcases List.mem_append.1 hq with hq | hq
  · exact free_rng h c q hq
  · rw [List.mem_singleton] at hq
    rw [hq]
    exact ⟨hc, hp⟩

end Go.Proofs.YtdndafdninnjfaaGreat
