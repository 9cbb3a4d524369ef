/-
  A forest as plain data: children with their parents; who is above, who is behind, who is under; no ring, and what keeps it so.
-/
import Derived.Test.YtdndafdninnjfaaGreatMQSrt
namespace Go.Proofs.YtdndafdninnjfaaGreat
open Go.RowKit

/-! a forest as plain data: children with their parents -/
abbrev FT := List (Int × Int)
def parO (L : FT) (x : Int) : Option Int := (L.find? (fun p => p.1 == x)).map Prod.snd
def freeF (L : FT) (x : Int) : FT := L.filter (fun p => p.1 != x)
def setF (L : FT) (c p : Int) : FT := freeF L c ++ [(c, p)]
/-- the list of those above, as far as there is an end -/
def IsA (L : FT) : Int → List Int → Prop
  | x, [] => parO L x = none
  | x, y :: l => parO L x = some y ∧ IsA L y l
def abvN (L : FT) : Nat → Int → List Int
  | 0, _ => []
  | n + 1, x => match parO L x with
    | none => []
    | some y => y :: abvN L n y
def abv (L : FT) (x : Int) : List Int := abvN L L.length x
def WF (L : FT) : Prop := (L.map Prod.fst).Nodup ∧ ∀ x, ∃ l, IsA L x l
theorem IsA.uniq {L : FT} : ∀ {x : Int} {l l' : List Int}, IsA L x l → IsA L x l' → l = l'
  | _, [], [], _, _ => rfl
  | _, [], _ :: _, h, h' => absurd ((show parO L _ = none from h).symm.trans h'.1) (by simp)
  | _, _ :: _, [], h, h' => absurd ((show parO L _ = none from h').symm.trans h.1) (by simp)
  | _, y :: l, z :: l', h, h' => by
    have e : y = z := by have := h.1.symm.trans h'.1; injection this
    subst e
    rw [IsA.uniq h.2 h'.2]
/-- from each one on, the rest -/
theorem IsA.rest {L : FT} : ∀ {x : Int} {l : List Int}, IsA L x l → ∀ y ∈ l, ∃ l', IsA L y l' ∧ l'.length < l.length
  | _, [], _, y, hy => by cases hy
  | _, z :: l, h, y, hy => by
    rcases List.mem_cons.1 hy with rfl | hy
    · exact ⟨l, h.2, by simp⟩
    · obtain ⟨l', h1, h2⟩ := IsA.rest h.2 y hy
      exact ⟨l', h1, by rw [List.length_cons]; omega⟩
/-- nobody is above oneself -/
theorem IsA.self {L : FT} {x : Int} {l : List Int} (h : IsA L x l) : x ∉ l := fun hx => by
  obtain ⟨l', h1, h2⟩ := h.rest x hx
  rw [h.uniq h1] at h2
  omega
theorem IsA.nodup {L : FT} : ∀ {x : Int} {l : List Int}, IsA L x l → l.Nodup
  | _, [], _ => List.nodup_nil
  | _, _ :: _, h => List.nodup_cons.2 ⟨h.2.self, h.2.nodup⟩
theorem par_mem {L : FT} {x y : Int} (h : parO L x = some y) : (x, y) ∈ L := by
  unfold parO at h
  cases hf : L.find? (fun p => p.1 == x) with
  | none => rw [hf] at h; cases h
  | some q =>
    rw [hf] at h
    injection h with h
    have h1 := List.find?_some hf
    have h2 := List.mem_of_find?_eq_some hf
    obtain ⟨a, b⟩ := q
    simp at h1 h
    rw [← h1, ← h]
    exact h2
theorem par_of_mem {L : FT} (hn : (L.map Prod.fst).Nodup) {x y : Int} (h : (x, y) ∈ L) : parO L x = some y := by
  induction L with
  | nil => cases h
  | cons q L ih =>
    obtain ⟨a, b⟩ := q
    rw [List.map_cons, List.nodup_cons] at hn
    unfold parO
    rw [List.find?_cons]
    rcases List.mem_cons.1 h with e | h
    · injection e with e1 e2
      rw [e1, e2]
      simp
    · have hne : a ≠ x := fun e => hn.1 (e ▸ List.mem_map.2 ⟨_, h, rfl⟩)
      rw [show ((a, b).1 == x) = false by simpa using hne]
      exact ih hn.2 h
/-- no more different ones than there are -/
theorem pigeon : ∀ {l m : List Int}, l.Nodup → (∀ x ∈ l, x ∈ m) → l.length ≤ m.length
  | [], _, _, _ => Nat.zero_le _
  | x :: l, m, hn, hs => by
    rw [List.nodup_cons] at hn
    have hx := hs x List.mem_cons_self
    have h1 := pigeon (l := l) (m := m.erase x) hn.2 (fun y hy => (List.mem_erase_of_ne (fun e => hn.1 (by rw [← e]; exact hy))).2 (hs y (List.mem_cons_of_mem _ hy)))
    rw [List.length_erase_of_mem hx] at h1
    have := List.length_pos_of_mem hx
    rw [List.length_cons]
    omega
theorem IsA.child {L : FT} : ∀ {x : Int} {l : List Int}, IsA L x l → ∀ y ∈ (x :: l).dropLast, y ∈ L.map Prod.fst
  | _, [], _, y, hy => by cases hy
  | x, z :: l, h, y, hy => by
    rw [List.dropLast_cons_of_ne_nil (by simp)] at hy
    rcases List.mem_cons.1 hy with rfl | hy
    · exact List.mem_map.2 ⟨_, par_mem h.1, rfl⟩
    · exact h.2.child y hy
theorem IsA.len {L : FT} {x : Int} {l : List Int} (h : IsA L x l) : l.length ≤ L.length := by
  have h1 : (x :: l).dropLast.Nodup := List.Nodup.sublist (List.dropLast_sublist _) (List.nodup_cons.2 ⟨h.self, h.nodup⟩)
  have h2 := pigeon h1 h.child
  rw [List.length_dropLast, List.length_cons, List.length_map] at h2
  omega
theorem IsA.fuel {L : FT} : ∀ {x : Int} {l : List Int} {n : Nat}, IsA L x l → l.length ≤ n → abvN L n x = l
  | _, [], 0, _, _ => rfl
  | _, [], n + 1, h, _ => by unfold abvN; rw [show parO L _ = none from h]
  | _, _ :: _, 0, _, hn => by simp at hn
  | _, y :: l, n + 1, h, hn => by
    unfold abvN
    rw [h.1]
    show y :: abvN L n y = y :: l
    rw [h.2.fuel (by rw [List.length_cons] at hn; omega)]
theorem WF.isA {L : FT} (h : WF L) (x : Int) : IsA L x (abv L x) := by
  obtain ⟨l, hl⟩ := h.2 x
  unfold abv
  rw [hl.fuel hl.len]
  exact hl
theorem abv_none {L : FT} (h : WF L) {x : Int} (hp : parO L x = none) : abv L x = [] := (h.isA x).uniq (show IsA L x [] from hp)
theorem abv_some {L : FT} (h : WF L) {x y : Int} (hp : parO L x = some y) : abv L x = y :: abv L y := (h.isA x).uniq ⟨hp, h.isA y⟩
theorem abv_len {L : FT} (h : WF L) (x : Int) : (abv L x).length ≤ L.length := (h.isA x).len
/-! Free, Set -/
theorem par_free (L : FT) (c z : Int) : parO (freeF L c) z = if z = c then none else parO L z := by
  unfold parO freeF
  rw [List.find?_filter]
  by_cases e : z = c
  · subst e
    rw [if_pos rfl]
    have : L.find? (fun a => a.1 != z && a.1 == z) = none := List.find?_eq_none.2 (fun a _ => by
      by_cases q : a.1 = z
      · simp [q]
      · simp [q])
    have e2 : (fun a : Int × Int => decide ((a.1 != z) = true ∧ (a.1 == z) = true)) = (fun a => a.1 != z && a.1 == z) := by
      funext a; by_cases q : a.1 = z <;> simp [q]
    first | rw [e2, this] | rw [this]
    rfl
  · rw [if_neg e]
    congr 1
    apply congrArg (fun f => L.find? f)
    funext a
    by_cases q : a.1 = z
    · have : a.1 ≠ c := fun k => e (q ▸ k)
      simp [q, e]
    · simp [q]
theorem free_fst (L : FT) (c : Int) : ∀ x ∈ (freeF L c).map Prod.fst, x ≠ c := fun x hx => by
  obtain ⟨p, hp, rfl⟩ := List.mem_map.1 hx
  unfold freeF at hp
  rw [List.mem_filter] at hp
  simpa using hp.2
theorem free_nod {L : FT} (h : (L.map Prod.fst).Nodup) (c : Int) : ((freeF L c).map Prod.fst).Nodup := List.Nodup.sublist (List.Sublist.map _ List.filter_sublist) h
theorem par_set (L : FT) (c p z : Int) : parO (setF L c p) z = if z = c then some p else parO L z := by
  have h := par_free L c z
  unfold parO at h ⊢
  unfold setF
  rw [List.find?_append]
  by_cases e : z = c
  · rw [if_pos e] at h ⊢
    have : (freeF L c).find? (fun p => p.1 == z) = none := by
      cases q : (freeF L c).find? (fun p => p.1 == z) with
      | none => rfl
      | some v => rw [q] at h; cases h
    rw [this, e]
    simp
  · rw [if_neg e] at h ⊢
    cases q : (freeF L c).find? (fun p => p.1 == z) with
    | none =>
      rw [q] at h
      have : ([(c, p)] : FT).find? (fun p => p.1 == z) = none := by simp [Ne.symm e]
      rw [this]
      exact h
    | some v => rw [q] at h; exact h
theorem set_nod {L : FT} (h : (L.map Prod.fst).Nodup) (c p : Int) : ((setF L c p).map Prod.fst).Nodup := by
  unfold setF
  rw [List.map_append]
  exact List.nodup_append.2 ⟨free_nod h c, by simp, fun a ha b hb e => by simp at hb; exact free_fst L c a ha (e.trans hb)⟩
theorem WF.nil : WF [] := ⟨by simp, fun _ => ⟨[], rfl⟩⟩
theorem WF.free {L : FT} (h : WF L) (c : Int) : WF (freeF L c) := by
  refine ⟨free_nod h.1 c, fun x => ?_⟩
  obtain ⟨l, hl⟩ := h.2 x
  induction l generalizing x with
  | nil => exact ⟨[], by show parO _ _ = none; rw [par_free]; split <;> first | rfl | exact hl⟩
  | cons y l ih =>
    by_cases e : x = c
    · exact ⟨[], by show parO _ _ = none; rw [par_free, if_pos e]⟩
    · obtain ⟨l', h'⟩ := ih y hl.2
      exact ⟨y :: l', by rw [par_free, if_neg e]; exact hl.1, h'⟩
theorem IsA.away {L : FT} {c p : Int} : ∀ {x : Int} {l : List Int}, IsA L x l → x ≠ c → c ∉ l → IsA (setF L c p) x l
  | x, [], h, hx, _ => by show parO _ _ = none; rw [par_set, if_neg hx]; exact h
  | x, y :: l, h, hx, hc => ⟨by rw [par_set, if_neg hx]; exact h.1, h.2.away (fun e => hc (by rw [e]; exact List.mem_cons_self)) (fun k => hc (List.mem_cons_of_mem _ k))⟩
theorem WF.set {L : FT} (h : WF L) {c p : Int} (hne : c ≠ p) (hc : c ∉ abv L p) : WF (setF L c p) := by
  have hp : IsA (setF L c p) p (abv L p) := (h.isA p).away (fun e => hne e.symm) hc
  refine ⟨set_nod h.1 c p, fun x => ?_⟩
  obtain ⟨l, hl⟩ := h.2 x
  induction l generalizing x with
  | nil =>
    by_cases e : x = c
    · exact ⟨p :: abv L p, by rw [par_set, if_pos e], hp⟩
    · exact ⟨[], by show parO _ _ = none; rw [par_set, if_neg e]; exact hl⟩
  | cons y l ih =>
    by_cases e : x = c
    · exact ⟨p :: abv L p, by rw [par_set, if_pos e], hp⟩
    · obtain ⟨l', h'⟩ := ih y hl.2
      exact ⟨y :: l', by rw [par_set, if_neg e]; exact hl.1, h'⟩
/-! children, rising -/
def chF (L : FT) (x : Int) : List Int := sortI ((L.filter (fun p => p.2 == x)).map Prod.fst)
theorem sortI_perm (l : List Int) : (sortI l).Perm l := by have := sort_perm l []; rwa [List.append_nil] at this
theorem mem_chF {L : FT} (hn : (L.map Prod.fst).Nodup) {x z : Int} : z ∈ chF L x ↔ parO L z = some x := by
  unfold chF
  rw [(sortI_perm _).mem_iff, List.mem_map]
  constructor
  · rintro ⟨⟨a, b⟩, hp, rfl⟩
    rw [List.mem_filter] at hp
    have e : b = x := by simpa using hp.2
    rw [← e]
    exact par_of_mem hn hp.1
  · intro h
    exact ⟨_, List.mem_filter.2 ⟨par_mem h, by simp⟩, rfl⟩
theorem chF_nod {L : FT} (hn : (L.map Prod.fst).Nodup) (x : Int) : (chF L x).Nodup := (sortI_perm _).nodup_iff.2 (List.Nodup.sublist (List.Sublist.map _ List.filter_sublist) hn)
theorem chF_len (L : FT) (x : Int) : (chF L x).length ≤ L.length := by
  unfold chF
  rw [(sortI_perm _).length_eq, List.length_map]
  exact List.length_filter_le _ _
/-! behind a name -/
def behN (L : FT) : Nat → Int → List Int
  | 0, x => [x]
  | n + 1, x => x :: (chF L x).flatMap (behN L n)
def hgt (L : FT) : Nat → Int → Prop
  | 0, x => chF L x = []
  | n + 1, x => ∀ c ∈ chF L x, hgt L n c
def beh (L : FT) (x : Int) : List Int := behN L L.length x
theorem hgt_of {L : FT} (h : WF L) : ∀ (n : Nat) (x : Int), L.length ≤ (abv L x).length + n → hgt L n x
  | 0, x, hd => by
    show chF L x = []
    cases hc : chF L x with
    | nil => rfl
    | cons c r =>
      have hm : c ∈ chF L x := by rw [hc]; exact List.mem_cons_self
      have h1 := abv_some h ((mem_chF h.1).1 hm)
      have h2 := abv_len h c
      rw [h1, List.length_cons] at h2
      omega
  | n + 1, x, hd => fun c hm => by
    have h1 := abv_some h ((mem_chF h.1).1 hm)
    exact hgt_of h n c (by rw [h1, List.length_cons]; omega)
theorem hgt_all {L : FT} (h : WF L) (x : Int) : hgt L L.length x := hgt_of h _ _ (by omega)
theorem flatMap_congr9 {f g : Int → List Int} : ∀ {l : List Int}, (∀ x ∈ l, f x = g x) → l.flatMap f = l.flatMap g
  | [], _ => rfl
  | x :: l, h => by rw [List.flatMap_cons, List.flatMap_cons, h x List.mem_cons_self, flatMap_congr9 (fun y hy => h y (List.mem_cons_of_mem _ hy))]
theorem beh_up {L : FT} : ∀ (n : Nat) (x : Int), hgt L n x → behN L (n + 1) x = behN L n x
  | 0, x, h => by show x :: (chF L x).flatMap _ = [x]; rw [show chF L x = [] from h]; rfl
  | n + 1, x, h => by
    show x :: (chF L x).flatMap (behN L (n + 1)) = x :: (chF L x).flatMap (behN L n)
    rw [flatMap_congr9 (fun c hc => beh_up n c (h c hc))]
theorem hgt_up {L : FT} : ∀ (n : Nat) (x : Int), hgt L n x → hgt L (n + 1) x
  | 0, x, h => fun c hc => by rw [show chF L x = [] from h] at hc; cases hc
  | n + 1, x, h => fun c hc => hgt_up n c (h c hc)
/-- one step down -/
theorem beh_eq {L : FT} (h : WF L) (x : Int) : beh L x = x :: (chF L x).flatMap (beh L) := by
  have h1 := beh_up L.length x (hgt_all h x)
  unfold beh
  rw [← h1]
  rfl
theorem mem_behN {L : FT} (h : WF L) : ∀ (n : Nat) (x : Int), hgt L n x → ∀ z, z ∈ behN L n x ↔ z = x ∨ x ∈ abv L z
  | 0, x, hh, z => by
    show z ∈ [x] ↔ _
    rw [List.mem_singleton]
    refine ⟨Or.inl, fun hz => hz.elim id (fun hz => ?_)⟩
    exfalso
    -- the last one ahead of x on z's way is a child of x
    have key : ∀ (l : List Int) (y : Int), IsA L y l → x ∈ l → ∃ c, parO L c = some x := by
      intro l
      induction l with
      | nil => intro y _ hx; cases hx
      | cons a l ih =>
        intro y hy hx
        rcases List.mem_cons.1 hx with e | hx
        · exact ⟨y, by rw [e]; exact hy.1⟩
        · exact ih a hy.2 hx
    obtain ⟨c, hc⟩ := key _ z (h.isA z) hz
    have := (mem_chF h.1).2 hc
    rw [show chF L x = [] from hh] at this
    cases this
  | n + 1, x, hh, z => by
    show z ∈ x :: (chF L x).flatMap (behN L n) ↔ _
    rw [List.mem_cons, List.mem_flatMap]
    refine or_congr Iff.rfl ⟨?_, fun hz => ?_⟩
    · rintro ⟨c, hc, hz⟩
      have hp := (mem_chF h.1).1 hc
      have e1 := abv_some h hp
      rcases (mem_behN h n c (hh c hc) z).1 hz with rfl | hz
      · rw [e1]; exact List.mem_cons_self
      · have key : ∀ (l : List Int) (y : Int), IsA L y l → c ∈ l → x ∈ l := by
          intro l
          induction l with
          | nil => intro y _ hx; cases hx
          | cons a l ih =>
            intro y hy hx
            rcases List.mem_cons.1 hx with e | hx
            · subst e
              have : l = abv L c := hy.2.uniq (h.isA c)
              rw [this, e1]
              exact List.mem_cons_of_mem _ List.mem_cons_self
            · exact List.mem_cons_of_mem _ (ih a hy.2 hx)
        exact key _ z (h.isA z) hz
    · have key : ∀ (l : List Int) (y : Int), IsA L y l → x ∈ l → ∃ c, parO L c = some x ∧ (y = c ∨ c ∈ l) := by
        intro l
        induction l with
        | nil => intro y _ hx; cases hx
        | cons a l ih =>
          intro y hy hx
          rcases List.mem_cons.1 hx with e | hx
          · exact ⟨y, by rw [e]; exact hy.1, Or.inl rfl⟩
          · obtain ⟨c, h1, h2⟩ := ih a hy.2 hx
            exact ⟨c, h1, Or.inr (h2.elim (fun e => by rw [e]; exact List.mem_cons_self) (List.mem_cons_of_mem _))⟩
      obtain ⟨c, hc, hcl⟩ := key _ z (h.isA z) hz
      have hm := (mem_chF h.1).2 hc
      exact ⟨c, hm, (mem_behN h n c (hh c hm) z).2 (hcl.imp id id)⟩
theorem mem_beh {L : FT} (h : WF L) {x z : Int} : z ∈ beh L x ↔ z = x ∨ x ∈ abv L z := mem_behN h _ x (hgt_all h x) z
/-- of two on one's way, one is above the other -/
theorem way_two {L : FT} (h : WF L) {a b z : Int} (ha : a ∈ z :: abv L z) (hb : b ∈ z :: abv L z) : a = b ∨ a ∈ abv L b ∨ b ∈ abv L a := by
  have key : ∀ (l : List Int) (y : Int), IsA L y l → a ∈ y :: l → b ∈ y :: l → a = b ∨ a ∈ abv L b ∨ b ∈ abv L a := by
    intro l
    induction l with
    | nil =>
      intro y _ h1 h2
      rw [List.mem_singleton] at h1 h2
      exact Or.inl (h1.trans h2.symm)
    | cons c l ih =>
      intro y hy h1 h2
      have e : abv L y = c :: l := (h.isA y).uniq hy
      rcases List.mem_cons.1 h1 with k1 | k1
      · rcases List.mem_cons.1 h2 with k2 | k2
        · exact Or.inl (k1.trans k2.symm)
        · exact Or.inr (Or.inr (by rw [k1, e]; exact k2))
      · rcases List.mem_cons.1 h2 with k2 | k2
        · exact Or.inr (Or.inl (by rw [k2, e]; exact k1))
        · exact ih c hy.2 k1 k2
  exact key _ z (h.isA z) ha hb
theorem abv_trans {L : FT} (h : WF L) {a b c : Int} (h1 : a ∈ abv L b) (h2 : b ∈ abv L c) : a ∈ abv L c := by
  have key : ∀ (l : List Int) (y : Int), IsA L y l → b ∈ l → a ∈ l := by
    intro l
    induction l with
    | nil => intro y _ hx; cases hx
    | cons d l ih =>
      intro y hy hx
      rcases List.mem_cons.1 hx with e | hx
      · subst e
        have : l = abv L b := hy.2.uniq (h.isA b)
        rw [this]
        exact List.mem_cons_of_mem _ h1
      · exact List.mem_cons_of_mem _ (ih d hy.2 hx)
  exact key _ c (h.isA c) h2
theorem no_ring {L : FT} (h : WF L) (x : Int) : x ∉ abv L x := (h.isA x).self
/-- two that are not above one another have no one in common -/
theorem beh_apart {L : FT} (h : WF L) {a b z : Int} (hne : a ≠ b) (h1 : a ∉ abv L b) (h2 : b ∉ abv L a) (ha : z ∈ beh L a) : z ∉ beh L b := fun hb => by
  rw [mem_beh h] at ha hb
  have w1 : a ∈ z :: abv L z := ha.elim (fun e => by rw [e]; exact List.mem_cons_self) (List.mem_cons_of_mem _)
  have w2 : b ∈ z :: abv L z := hb.elim (fun e => by rw [e]; exact List.mem_cons_self) (List.mem_cons_of_mem _)
  rcases way_two h w1 w2 with e | e | e
  · exact hne e
  · exact h1 e
  · exact h2 e
theorem flat_nod {f : Int → List Int} : ∀ {l : List Int}, l.Nodup → (∀ x ∈ l, (f x).Nodup) → (∀ x ∈ l, ∀ y ∈ l, x ≠ y → ∀ z ∈ f x, z ∉ f y) → (l.flatMap f).Nodup
  | [], _, _, _ => List.nodup_nil
  | x :: l, hn, h1, h2 => by
    rw [List.nodup_cons] at hn
    rw [List.flatMap_cons]
    refine List.nodup_append.2 ⟨h1 x List.mem_cons_self, flat_nod hn.2 (fun y hy => h1 y (List.mem_cons_of_mem _ hy)) (fun y hy z hz => h2 y (List.mem_cons_of_mem _ hy) z (List.mem_cons_of_mem _ hz)), fun a ha b hb e => ?_⟩
    subst e
    obtain ⟨y, hy, hz⟩ := List.mem_flatMap.1 hb
    exact h2 x List.mem_cons_self y (List.mem_cons_of_mem _ hy) (fun e => hn.1 (e ▸ hy)) a ha hz
theorem sib_apart {L : FT} (h : WF L) {x a b : Int} (ha : parO L a = some x) (hb : parO L b = some x) : a ∉ abv L b := fun hm => by
  rw [abv_some h hb] at hm
  have hx : x ∈ abv L a := by rw [abv_some h ha]; exact List.mem_cons_self
  rcases List.mem_cons.1 hm with e | hm
  · subst e; exact no_ring h a hx
  · exact no_ring h x (abv_trans h hx hm)
theorem behN_nod {L : FT} (h : WF L) : ∀ (n : Nat) (x : Int), hgt L n x → (behN L n x).Nodup
  | 0, x, _ => by show [x].Nodup; simp
  | n + 1, x, hh => by
    show (x :: (chF L x).flatMap (behN L n)).Nodup
    refine List.nodup_cons.2 ⟨fun hm => ?_, flat_nod (chF_nod h.1 x) (fun c hc => behN_nod h n c (hh c hc)) (fun a ha b hb hne z hz hz' => ?_)⟩
    · obtain ⟨c, hc, hz⟩ := List.mem_flatMap.1 hm
      have e1 := abv_some h ((mem_chF h.1).1 hc)
      have hx : x ∈ abv L c := by rw [e1]; exact List.mem_cons_self
      rcases (mem_behN h n c (hh c hc) x).1 hz with e | e
      · rw [← e] at hx; exact no_ring h x hx
      · exact no_ring h x (abv_trans h hx e)
    · have pa := (mem_chF h.1).1 ha
      have pb := (mem_chF h.1).1 hb
      have w1 := (mem_behN h n a (hh a ha) z).1 hz
      have w2 := (mem_behN h n b (hh b hb) z).1 hz'
      have k1 : a ∈ z :: abv L z := w1.elim (fun e => by rw [e]; exact List.mem_cons_self) (List.mem_cons_of_mem _)
      have k2 : b ∈ z :: abv L z := w2.elim (fun e => by rw [e]; exact List.mem_cons_self) (List.mem_cons_of_mem _)
      rcases way_two h k1 k2 with e | e | e
      · exact hne e
      · exact sib_apart h pa pb e
      · exact sib_apart h pb pa e
theorem beh_nod {L : FT} (h : WF L) (x : Int) : (beh L x).Nodup := behN_nod h _ x (hgt_all h x)
theorem abv_fst {L : FT} (h : WF L) {x z : Int} (hz : x ∈ abv L z) : z ∈ L.map Prod.fst := by
  cases hp : parO L z with
  | none => rw [abv_none h hp] at hz; cases hz
  | some y => exact List.mem_map.2 ⟨_, par_mem hp, rfl⟩
theorem beh_len {L : FT} (h : WF L) (x : Int) : (beh L x).length ≤ L.length + 1 := by
  have := pigeon (m := x :: L.map Prod.fst) (beh_nod h x) (fun z hz => by
    rcases (mem_beh h).1 hz with rfl | hz
    · exact List.mem_cons_self
    · exact List.mem_cons_of_mem _ (abv_fst h hz))
  rwa [List.length_cons, List.length_map] at this
/-! under names -/
def topB (L : FT) (ns : List Int) (i : Nat) : Bool := (decide (i = 0) || decide (ns.getD i 0 ≠ ns.getD (i - 1) 0)) && (abv L (ns.getD i 0)).all (fun a => !decide (a ∈ ns))
def undN (L : FT) (ns : List Int) (k : Nat) : List Int := (List.range k).flatMap fun i => if topB L ns i then beh L (ns.getD i 0) else []
def undL (L : FT) (l : List Int) : List Int := undN L (sortI l) (sortI l).length
theorem undN_yes {L : FT} {ns : List Int} {k : Nat} (h : topB L ns k = true) : undN L ns (k + 1) = undN L ns k ++ beh L (ns.getD k 0) := by
  unfold undN
  rw [List.range_succ, List.flatMap_append]
  simp [h]
theorem undN_no {L : FT} {ns : List Int} {k : Nat} (h : topB L ns k = false) : undN L ns (k + 1) = undN L ns k := by
  unfold undN
  rw [List.range_succ, List.flatMap_append]
  simp [h]
theorem mem_undN {L : FT} {ns : List Int} {k : Nat} {z : Int} : z ∈ undN L ns k ↔ ∃ i, i < k ∧ topB L ns i = true ∧ z ∈ beh L (ns.getD i 0) := by
  unfold undN
  rw [List.mem_flatMap]
  constructor
  · rintro ⟨i, hi, hz⟩
    by_cases c : topB L ns i = true
    · rw [if_pos c] at hz
      exact ⟨i, List.mem_range.1 hi, c, hz⟩
    · rw [if_neg c] at hz
      cases hz
  · rintro ⟨i, hi, c, hz⟩
    exact ⟨i, List.mem_range.2 hi, by rw [if_pos c]; exact hz⟩
theorem top_spec {L : FT} {ns : List Int} {i : Nat} (h : topB L ns i = true) : (i = 0 ∨ ns.getD i 0 ≠ ns.getD (i - 1) 0) ∧ ∀ a ∈ abv L (ns.getD i 0), a ∉ ns := by
  unfold topB at h
  rw [Bool.and_eq_true, Bool.or_eq_true, decide_eq_true_eq, decide_eq_true_eq, List.all_eq_true] at h
  exact ⟨h.1, fun a ha => by simpa using h.2 a ha⟩
theorem getD_mem {ns : List Int} {i : Nat} (hi : i < ns.length) : ns.getD i 0 ∈ ns := by
  rw [List.getD, List.getElem?_eq_getElem hi]
  exact List.getElem_mem hi
/-- the first of those that are alike -/
theorem first_of {ns : List Int} : ∀ (i : Nat), i < ns.length → ∃ j, j < ns.length ∧ ns.getD j 0 = ns.getD i 0 ∧ (j = 0 ∨ ns.getD j 0 ≠ ns.getD (j - 1) 0)
  | 0, hi => ⟨0, hi, rfl, Or.inl rfl⟩
  | i + 1, hi => by
    by_cases c : ns.getD (i + 1) 0 = ns.getD i 0
    · obtain ⟨j, h1, h2, h3⟩ := first_of (ns := ns) i (by omega)
      exact ⟨j, h1, h2.trans c.symm, h3⟩
    · exact ⟨i + 1, hi, rfl, Or.inr (by rw [show i + 1 - 1 = i by omega]; exact c)⟩
/-- each name has a topmost one of the names above it, or is it -/
theorem topmost {L : FT} (h : WF L) {ns : List Int} : ∀ (n : Nat) (x : Int), (abv L x).length ≤ n → x ∈ ns → ∃ t ∈ ns, (t = x ∨ t ∈ abv L x) ∧ ∀ a ∈ abv L t, a ∉ ns
  | 0, x, hn, hx => ⟨x, hx, Or.inl rfl, fun a ha => by rw [List.eq_nil_of_length_eq_zero (Nat.le_zero.1 hn)] at ha; cases ha⟩
  | n + 1, x, hn, hx => by
    by_cases c : ∃ a ∈ abv L x, a ∈ ns
    · obtain ⟨a, ha, hm⟩ := c
      obtain ⟨l', h1, h2⟩ := (h.isA x).rest a ha
      have e : l' = abv L a := h1.uniq (h.isA a)
      obtain ⟨t, t1, t2, t3⟩ := topmost h n a (by rw [← e]; omega) hm
      exact ⟨t, t1, Or.inr (t2.elim (fun q => by rw [q]; exact ha) (fun q => abv_trans h q ha)), t3⟩
    · exact ⟨x, hx, Or.inl rfl, fun a ha hm => c ⟨a, ha, hm⟩⟩
theorem mem_undS {L : FT} (h : WF L) {ns : List Int} {z : Int} : z ∈ undN L ns ns.length ↔ ∃ x ∈ ns, z = x ∨ x ∈ abv L z := by
  rw [mem_undN]
  constructor
  · rintro ⟨i, hi, _, hz⟩
    exact ⟨_, getD_mem hi, (mem_beh h).1 hz⟩
  · rintro ⟨x, hx, hz⟩
    obtain ⟨t, t1, t2, t3⟩ := topmost h (abv L x).length x (Nat.le_refl _) hx
    obtain ⟨i, hi, e⟩ := List.mem_iff_getElem.1 t1
    obtain ⟨j, hj, ej, hj0⟩ := first_of (ns := ns) i hi
    have et : ns.getD j 0 = t := by rw [ej, List.getD, List.getElem?_eq_getElem hi]; exact e
    refine ⟨j, hj, ?_, ?_⟩
    · unfold topB
      rw [et, Bool.and_eq_true, Bool.or_eq_true, decide_eq_true_eq, decide_eq_true_eq, List.all_eq_true]
      exact ⟨by rw [et] at hj0; exact hj0, fun a ha => by simpa using t3 a ha⟩
    · rw [et]
      refine (mem_beh h).2 ?_
      rcases hz with rfl | hz
      · rcases t2 with q | q
        · exact Or.inl q.symm
        · exact Or.inr q
      · rcases t2 with q | q
        · rw [q]; exact Or.inr hz
        · exact Or.inr (abv_trans h q hz)
theorem mem_undL {L : FT} (h : WF L) {l : List Int} {z : Int} : z ∈ undL L l ↔ ∃ x ∈ l, z = x ∨ x ∈ abv L z := by
  unfold undL
  rw [mem_undS h]
  constructor
  · rintro ⟨x, hx, hz⟩
    exact ⟨x, (sortI_perm l).mem_iff.1 hx, hz⟩
  · rintro ⟨x, hx, hz⟩
    exact ⟨x, (sortI_perm l).mem_iff.2 hx, hz⟩
theorem flat_if {f : Nat → List Int} {p : Nat → Bool} : ∀ l : List Nat, (l.flatMap fun i => if p i then f i else []) = (l.filter p).flatMap f
  | [] => rfl
  | i :: l => by
    rw [List.flatMap_cons, flat_if l]
    by_cases c : p i = true
    · rw [if_pos c, List.filter_cons_of_pos c, List.flatMap_cons]
    · rw [if_neg c, List.filter_cons_of_neg c, List.nil_append]
theorem flat_nodN {f : Nat → List Int} : ∀ {l : List Nat}, l.Nodup → (∀ x ∈ l, (f x).Nodup) → (∀ x ∈ l, ∀ y ∈ l, x ≠ y → ∀ z ∈ f x, z ∉ f y) → (l.flatMap f).Nodup
  | [], _, _, _ => List.nodup_nil
  | x :: l, hn, h1, h2 => by
    rw [List.nodup_cons] at hn
    rw [List.flatMap_cons]
    refine List.nodup_append.2 ⟨h1 x List.mem_cons_self, flat_nodN hn.2 (fun y hy => h1 y (List.mem_cons_of_mem _ hy)) (fun y hy z hz => h2 y (List.mem_cons_of_mem _ hy) z (List.mem_cons_of_mem _ hz)), fun a ha b hb e => ?_⟩
    subst e
    obtain ⟨y, hy, hz⟩ := List.mem_flatMap.1 hb
    exact h2 x List.mem_cons_self y (List.mem_cons_of_mem _ hy) (fun e => hn.1 (e ▸ hy)) a ha hz
theorem up_getD {ns : List Int} (hs : ns.Pairwise (· ≤ ·)) {i j : Nat} (hij : i ≤ j) (hj : j < ns.length) : ns.getD i 0 ≤ ns.getD j 0 := by
  have hi : i < ns.length := by omega
  rw [List.getD, List.getD, List.getElem?_eq_getElem hi, List.getElem?_eq_getElem hj]
  by_cases c : i = j
  · subst c; exact Int.le_refl _
  · exact List.pairwise_iff_getElem.1 hs i j hi hj (by omega)
theorem und_nod {L : FT} (h : WF L) {ns : List Int} (hs : ns.Pairwise (· ≤ ·)) : (undN L ns ns.length).Nodup := by
  unfold undN
  rw [flat_if]
  refine flat_nodN (List.Nodup.sublist List.filter_sublist List.nodup_range) (fun i _ => beh_nod h _) (fun i hi j hj hne z hz => ?_)
  rw [List.mem_filter, List.mem_range] at hi hj
  have s1 := top_spec hi.2
  have s2 := top_spec hj.2
  have hne2 : ns.getD i 0 ≠ ns.getD j 0 := by
    have key : ∀ a b, a < b → b < ns.length → (b = 0 ∨ ns.getD b 0 ≠ ns.getD (b - 1) 0) → ns.getD a 0 ≠ ns.getD b 0 := fun a b hab hb ht e => by
      rcases ht with q | q
      · omega
      · have k1 := up_getD hs (show a ≤ b - 1 by omega) (by omega)
        have k2 := up_getD hs (show b - 1 ≤ b by omega) hb
        omega
    rcases Nat.lt_or_gt_of_ne hne with q | q
    · exact key i j q hj.1 s2.1
    · exact fun e => key j i q hi.1 s1.1 e.symm
  exact beh_apart h hne2 (fun k => s2.2 _ k (getD_mem hi.1)) (fun k => s1.2 _ k (getD_mem hj.1)) hz
theorem und_len {L : FT} (h : WF L) {ns : List Int} (hs : ns.Pairwise (· ≤ ·)) : (undN L ns ns.length).length ≤ ns.length + L.length := by
  have := pigeon (m := ns ++ L.map Prod.fst) (und_nod h hs) (fun z hz => by
    obtain ⟨x, hx, hz⟩ := (mem_undS h).1 hz
    rcases hz with rfl | hz
    · exact List.mem_append_left _ hx
    · exact List.mem_append_right _ (abv_fst h hz))
  rwa [List.length_append, List.length_map] at this
theorem undN_mono {L : FT} {ns : List Int} {k m : Nat} (hk : k ≤ m) : (undN L ns k).length ≤ (undN L ns m).length := by
  obtain ⟨d, rfl⟩ : ∃ d, m = k + d := ⟨m - k, by omega⟩
  induction d with
  | zero => exact Nat.le_refl _
  | succ d ih =>
    have ih := ih (by omega)
    cases c : topB L ns (k + d) with
    | true => rw [← Nat.add_assoc, undN_yes c, List.length_append]; omega
    | false => rw [← Nat.add_assoc, undN_no c]; exact ih
/-! what the calls answer -/
def fsetE (L : FT) (c p : Int) : Int := if c ∈ abv L p ∨ c = p then 8 else 0
def setS9 (L : FT) (c p : Int) : FT := if fsetE L c p = 0 then setF L c p else L
def freeS (L : FT) (xs : List Int) : FT := xs.foldl freeF L
def frN (L : FT) : List Int → Nat
  | [] => 0
  | x :: xs => (if (parO L x).isSome then 1 else 0) + frN (freeF L x) xs
def dropF (L : FT) (x : Int) : FT := freeS (freeF L x) (chF L x)
def doF (L : FT) (k : Int) (xs : List Int) : FT := if k % 6 = 4 then freeS L xs else if k % 6 = 5 then dropF L (xs.getD 0 0) else setS9 L (xs.getD 0 0) (xs.getD 1 0)
theorem fset_ok {L : FT} {c p : Int} (h : fsetE L c p = 0) : c ∉ abv L p ∧ c ≠ p := by
  unfold fsetE at h
  by_cases q : c ∈ abv L p ∨ c = p
  · rw [if_pos q] at h; omega
  · exact ⟨fun a => q (Or.inl a), fun a => q (Or.inr a)⟩
theorem WF.set9 {L : FT} (h : WF L) (c p : Int) : WF (setS9 L c p) := by
  unfold setS9
  by_cases q : fsetE L c p = 0
  · rw [if_pos q]
    exact h.set (fset_ok q).2 (fset_ok q).1
  · rw [if_neg q]; exact h
theorem WF.frees : ∀ (xs : List Int) {L : FT}, WF L → WF (freeS L xs)
  | [], _, h => h
  | x :: xs, _, h => WF.frees xs (h.free x)
theorem WF.drop {L : FT} (h : WF L) (x : Int) : WF (dropF L x) := WF.frees _ (h.free x)
theorem WF.does {L : FT} (h : WF L) (k : Int) (xs : List Int) : WF (doF L k xs) := by
  unfold doF
  split
  · exact WF.frees xs h
  · split
    · exact h.drop _
    · exact h.set9 _ _
theorem free_len (L : FT) (x : Int) : (freeF L x).length ≤ L.length := List.length_filter_le _ _
theorem frees_len : ∀ (xs : List Int) (L : FT), (freeS L xs).length ≤ L.length
  | [], _ => Nat.le_refl _
  | x :: xs, L => Nat.le_trans (frees_len xs (freeF L x)) (free_len L x)
theorem frees_snoc {L : FT} {xs : List Int} {k : Nat} {x : Int} (h : xs[k]? = some x) : freeS L (xs.take (k + 1)) = freeF (freeS L (xs.take k)) x := by
  unfold freeS
  rw [List.take_add_one, h, List.foldl_append]
  rfl
theorem frN_snoc : ∀ {xs : List Int} {L : FT} {k : Nat} {x : Int}, xs[k]? = some x → frN L (xs.take (k + 1)) = frN L (xs.take k) + (if (parO (freeS L (xs.take k)) x).isSome then 1 else 0)
  | [], _, _, _, h => by simp at h
  | a :: xs, L, 0, x, h => by
    simp at h
    subst h
    show (if (parO L a).isSome then 1 else 0) + 0 = 0 + _
    rw [Nat.add_zero, Nat.zero_add]
    rfl
  | a :: xs, L, k + 1, x, h => by
    have ih := frN_snoc (xs := xs) (L := freeF L a) (k := k) (x := x) (by simpa using h)
    rw [List.take_succ_cons, List.take_succ_cons]
    show _ + frN (freeF L a) (xs.take (k + 1)) = _ + frN (freeF L a) (xs.take k) + _
    rw [ih, Nat.add_assoc]
    rfl
theorem frN_le : ∀ (xs : List Int) (L : FT), frN L xs ≤ xs.length
  | [], _ => Nat.le_refl _
  | x :: xs, L => by
    have := frN_le xs (freeF L x)
    show (if (parO L x).isSome then 1 else 0) + frN (freeF L x) xs ≤ xs.length + 1
    split <;> omega

end Go.Proofs.YtdndafdninnjfaaGreat
