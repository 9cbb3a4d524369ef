/-
  2 texts in one file, each with its own heading.
-/
import Derived.Test.YtkondkajpmafkaaGreatMT25
import Derived.Test.YtkondkajpmafkaaGreatMT23
import Derived.Test.YtkondkajpmafkaaGreatMT20
/-
  A forest as plain data: children with their parents; who is above, who is behind, who is under; no ring, and what keeps it so.
-/
namespace Go.Proofs.YtkondkajpmafkaaGreat
open Go.RowKit

abbrev FT := List (Int × Int)
def parO (L : FT) (x : Int) : Option Int := (L.find? (fun p => p.1 == x)).map Prod.snd
def freeF (L : FT) (x : Int) : FT := L.filter (fun p => p.1 != x)
def setF (L : FT) (c p : Int) : FT := freeF L c ++ [(c, p)]
def IsA (L : FT) : Int → List Int → Prop
  | x, [] => parO L x = none
  | x, y :: l => parO L x = some y ∧ IsA L y l
def abvN (L : FT) : Nat → Int → List Int
  | 0, _ => []
  | n + 1, x => match parO L x with
    | none => []
    | some y => y :: abvN L n y
def abv (L : FT) (x : Int) : List Int := abvN L L.length x
def WF (L : FT) : Prop := (L.map Prod.fst).Nodup ∧ ∀ x, ∃ l, IsA L x l
theorem IsA.uniq {L : FT} : ∀ {x : Int} {l l' : List Int}, IsA L x l → IsA L x l' → l = l'
  | _, [], [], _, _ => rfl
  | _, [], _ :: _, h, h' => absurd ((show parO L _ = none from h).symm.trans h'.1) (by simp)
  | _, _ :: _, [], h, h' => absurd ((show parO L _ = none from h').symm.trans h.1) (by simp)
  | _, y :: l, z :: l', h, h' => by
    have e : y = z := by have := h.1.symm.trans h'.1; injection this
    subst e
    rw [IsA.uniq h.2 h'.2]
theorem IsA.rest {L : FT} : ∀ {x : Int} {l : List Int}, IsA L x l → ∀ y ∈ l, ∃ l', IsA L y l' ∧ l'.length < l.length
  | _, [], _, y, hy => by cases hy
  | _, z :: l, h, y, hy => by
    rcases List.mem_cons.1 hy with rfl | hy
    · exact ⟨l, h.2, by simp⟩
    · obtain ⟨l', h1, h2⟩ := IsA.rest h.2 y hy
      exact ⟨l', h1, by rw [List.length_cons]; omega⟩
theorem IsA.self {L : FT} {x : Int} {l : List Int} (h : IsA L x l) : x ∉ l := fun hx => by
  obtain ⟨l', h1, h2⟩ := h.rest x hx
  rw [h.uniq h1] at h2
  omega
theorem IsA.nodup {L : FT} : ∀ {x : Int} {l : List Int}, IsA L x l → l.Nodup
  | _, [], _ => List.nodup_nil
  | _, _ :: _, h => List.nodup_cons.2 ⟨h.2.self, h.2.nodup⟩
theorem par_mem {L : FT} {x y : Int} (h : parO L x = some y) : (x, y) ∈ L := by
  unfold parO at h
  cases hf : L.find? (fun p => p.1 == x) with
  | none => rw [hf] at h; cases h
  | some q =>
    rw [hf] at h
    injection h with h
    have h1 := List.find?_some hf
    have h2 := List.mem_of_find?_eq_some hf
    obtain ⟨a, b⟩ := q
    simp at h1 h
    rw [← h1, ← h]
    exact h2
theorem par_of_mem {L : FT} (hn : (L.map Prod.fst).Nodup) {x y : Int} (h : (x, y) ∈ L) : parO L x = some y := by
  induction L with
  | nil => cases h
  | cons q L ih =>
    obtain ⟨a, b⟩ := q
    rw [List.map_cons, List.nodup_cons] at hn
    unfold parO
    rw [List.find?_cons]
    rcases List.mem_cons.1 h with e | h
    · injection e with e1 e2
      rw [e1, e2]
      simp
    · have hne : a ≠ x := fun e => hn.1 (e ▸ List.mem_map.2 ⟨_, h, rfl⟩)
      rw [show ((a, b).1 == x) = false by simpa using hne]
      exact ih hn.2 h
theorem pigeon : ∀ {l m : List Int}, l.Nodup → (∀ x ∈ l, x ∈ m) → l.length ≤ m.length
  | [], _, _, _ => Nat.zero_le _
  | x :: l, m, hn, hs => by
    rw [List.nodup_cons] at hn
    have hx := hs x List.mem_cons_self
    have h1 := pigeon (l := l) (m := m.erase x) hn.2 (fun y hy => (List.mem_erase_of_ne (fun e => hn.1 (by rw [← e]; exact hy))).2 (hs y (List.mem_cons_of_mem _ hy)))
    rw [List.length_erase_of_mem hx] at h1
    have := List.length_pos_of_mem hx
    rw [List.length_cons]
    omega
theorem IsA.child {L : FT} : ∀ {x : Int} {l : List Int}, IsA L x l → ∀ y ∈ (x :: l).dropLast, y ∈ L.map Prod.fst
  | _, [], _, y, hy => by cases hy
  | x, z :: l, h, y, hy => by
    rw [List.dropLast_cons_of_ne_nil (by simp)] at hy
    rcases List.mem_cons.1 hy with rfl | hy
    · exact List.mem_map.2 ⟨_, par_mem h.1, rfl⟩
    · exact h.2.child y hy
theorem IsA.len {L : FT} {x : Int} {l : List Int} (h : IsA L x l) : l.length ≤ L.length := by
  have h1 : (x :: l).dropLast.Nodup := List.Nodup.sublist (List.dropLast_sublist _) (List.nodup_cons.2 ⟨h.self, h.nodup⟩)
  have h2 := pigeon h1 h.child
  rw [List.length_dropLast, List.length_cons, List.length_map] at h2
  omega
theorem IsA.fuel {L : FT} : ∀ {x : Int} {l : List Int} {n : Nat}, IsA L x l → l.length ≤ n → abvN L n x = l
  | _, [], 0, _, _ => rfl
  | _, [], n + 1, h, _ => by unfold abvN; rw [show parO L _ = none from h]
  | _, _ :: _, 0, _, hn => by simp at hn
  | _, y :: l, n + 1, h, hn => by
    unfold abvN
    rw [h.1]
    show y :: abvN L n y = y :: l
    rw [h.2.fuel (by rw [List.length_cons] at hn; omega)]
theorem WF.isA {L : FT} (h : WF L) (x : Int) : IsA L x (abv L x) := by
  obtain ⟨l, hl⟩ := h.2 x
  unfold abv
  rw [hl.fuel hl.len]
  exact hl
theorem abv_none {L : FT} (h : WF L) {x : Int} (hp : parO L x = none) : abv L x = [] := (h.isA x).uniq (show IsA L x [] from hp)
theorem abv_some {L : FT} (h : WF L) {x y : Int} (hp : parO L x = some y) : abv L x = y :: abv L y := (h.isA x).uniq ⟨hp, h.isA y⟩
theorem abv_len {L : FT} (h : WF L) (x : Int) : (abv L x).length ≤ L.length := (h.isA x).len
theorem par_free (L : FT) (c z : Int) : parO (freeF L c) z = if z = c then none else parO L z := by
  unfold parO freeF
  rw [List.find?_filter]
  by_cases e : z = c
  · subst e
    rw [if_pos rfl]
    have : L.find? (fun a => a.1 != z && a.1 == z) = none := List.find?_eq_none.2 (fun a _ => by
      by_cases q : a.1 = z
      · simp [q]
      · simp [q])
    have e2 : (fun a : Int × Int => decide ((a.1 != z) = true ∧ (a.1 == z) = true)) = (fun a => a.1 != z && a.1 == z) := by
      funext a; by_cases q : a.1 = z <;> simp [q]
    first | rw [e2, this] | rw [this]
    rfl
  · rw [if_neg e]
    congr 1
    apply congrArg (fun f => L.find? f)
    funext a
    by_cases q : a.1 = z
    · have : a.1 ≠ c := fun k => e (q ▸ k)
      simp [q, e]
    · simp [q]
theorem free_fst (L : FT) (c : Int) : ∀ x ∈ (freeF L c).map Prod.fst, x ≠ c := fun x hx => by
  obtain ⟨p, hp, rfl⟩ := List.mem_map.1 hx
  unfold freeF at hp
  rw [List.mem_filter] at hp
  simpa using hp.2
theorem free_nod {L : FT} (h : (L.map Prod.fst).Nodup) (c : Int) : ((freeF L c).map Prod.fst).Nodup := List.Nodup.sublist (List.Sublist.map _ List.filter_sublist) h
theorem par_set (L : FT) (c p z : Int) : parO (setF L c p) z = if z = c then some p else parO L z := by
  have h := par_free L c z
  unfold parO at h ⊢
  unfold setF
  rw [List.find?_append]
  by_cases e : z = c
  · rw [if_pos e] at h ⊢
    have : (freeF L c).find? (fun p => p.1 == z) = none := by
      cases q : (freeF L c).find? (fun p => p.1 == z) with
      | none => rfl
      | some v => rw [q] at h; cases h
    rw [this, e]
    simp
  · rw [if_neg e] at h ⊢
    cases q : (freeF L c).find? (fun p => p.1 == z) with
    | none =>
      rw [q] at h
      have : ([(c, p)] : FT).find? (fun p => p.1 == z) = none := by simp [Ne.symm e]
      rw [this]
      exact h
    | some v => rw [q] at h; exact h
theorem set_nod {L : FT} (h : (L.map Prod.fst).Nodup) (c p : Int) : ((setF L c p).map Prod.fst).Nodup := by
  unfold setF
  rw [List.map_append]
  exact List.nodup_append.2 ⟨free_nod h c, by simp, fun a ha b hb e => by simp at hb; exact free_fst L c a ha (e.trans hb)⟩
theorem WF.nil : WF [] := ⟨by simp, fun _ => ⟨[], rfl⟩⟩
theorem WF.free {L : FT} (h : WF L) (c : Int) : WF (freeF L c) := by
  refine ⟨free_nod h.1 c, fun x => ?_⟩
  obtain ⟨l, hl⟩ := h.2 x
  induction l generalizing x with
  | nil => exact ⟨[], by show parO _ _ = none; rw [par_free]; split <;> first | rfl | exact hl⟩
  | cons y l ih =>
    by_cases e : x = c
    · exact ⟨[], by show parO _ _ = none; rw [par_free, if_pos e]⟩
    · obtain ⟨l', h'⟩ := ih y hl.2
      exact ⟨y :: l', by rw [par_free, if_neg e]; exact hl.1, h'⟩
theorem IsA.away {L : FT} {c p : Int} : ∀ {x : Int} {l : List Int}, IsA L x l → x ≠ c → c ∉ l → IsA (setF L c p) x l
  | x, [], h, hx, _ => by show parO _ _ = none; rw [par_set, if_neg hx]; exact h
  | x, y :: l, h, hx, hc => ⟨by rw [par_set, if_neg hx]; exact h.1, h.2.away (fun e => hc (by rw [e]; exact List.mem_cons_self)) (fun k => hc (List.mem_cons_of_mem _ k))⟩
theorem WF.set {L : FT} (h : WF L) {c p : Int} (hne : c ≠ p) (hc : c ∉ abv L p) : WF (setF L c p) := by
  have hp : IsA (setF L c p) p (abv L p) := (h.isA p).away (fun e => hne e.symm) hc
  refine ⟨set_nod h.1 c p, fun x => ?_⟩
  obtain ⟨l, hl⟩ := h.2 x
  induction l generalizing x with
  | nil =>
    by_cases e : x = c
    · exact ⟨p :: abv L p, by rw [par_set, if_pos e], hp⟩
    · exact ⟨[], by show parO _ _ = none; rw [par_set, if_neg e]; exact hl⟩
  | cons y l ih =>
    by_cases e : x = c
    · exact ⟨p :: abv L p, by rw [par_set, if_pos e], hp⟩
    · obtain ⟨l', h'⟩ := ih y hl.2
      exact ⟨y :: l', by rw [par_set, if_neg e]; exact hl.1, h'⟩
def chF (L : FT) (x : Int) : List Int := sortI ((L.filter (fun p => p.2 == x)).map Prod.fst)
theorem sortI_perm (l : List Int) : (sortI l).Perm l := by have := sort_perm l []; rwa [List.append_nil] at this
theorem mem_chF {L : FT} (hn : (L.map Prod.fst).Nodup) {x z : Int} : z ∈ chF L x ↔ parO L z = some x := by
  unfold chF
  rw [(sortI_perm _).mem_iff, List.mem_map]
  constructor
  · rintro ⟨⟨a, b⟩, hp, rfl⟩
    rw [List.mem_filter] at hp
    have e : b = x := by simpa using hp.2
    rw [← e]
    exact par_of_mem hn hp.1
  · intro h
    exact ⟨_, List.mem_filter.2 ⟨par_mem h, by simp⟩, rfl⟩
theorem chF_nod {L : FT} (hn : (L.map Prod.fst).Nodup) (x : Int) : (chF L x).Nodup := (sortI_perm _).nodup_iff.2 (List.Nodup.sublist (List.Sublist.map _ List.filter_sublist) hn)
theorem chF_len (L : FT) (x : Int) : (chF L x).length ≤ L.length := by
  unfold chF
  rw [(sortI_perm _).length_eq, List.length_map]
  exact List.length_filter_le _ _
def behN (L : FT) : Nat → Int → List Int
  | 0, x => [x]
  | n + 1, x => x :: (chF L x).flatMap (behN L n)
def hgt (L : FT) : Nat → Int → Prop
  | 0, x => chF L x = []
  | n + 1, x => ∀ c ∈ chF L x, hgt L n c
def beh (L : FT) (x : Int) : List Int := behN L L.length x
theorem hgt_of {L : FT} (h : WF L) : ∀ (n : Nat) (x : Int), L.length ≤ (abv L x).length + n → hgt L n x
  | 0, x, hd => by
    show chF L x = []
    cases hc : chF L x with
    | nil => rfl
    | cons c r =>
      have hm : c ∈ chF L x := by rw [hc]; exact List.mem_cons_self
      have h1 := abv_some h ((mem_chF h.1).1 hm)
      have h2 := abv_len h c
      rw [h1, List.length_cons] at h2
      omega
  | n + 1, x, hd => fun c hm => by
    have h1 := abv_some h ((mem_chF h.1).1 hm)
    exact hgt_of h n c (by rw [h1, List.length_cons]; omega)
theorem hgt_all {L : FT} (h : WF L) (x : Int) : hgt L L.length x := hgt_of h _ _ (by omega)
theorem flatMap_congr9 {f g : Int → List Int} : ∀ {l : List Int}, (∀ x ∈ l, f x = g x) → l.flatMap f = l.flatMap g
  | [], _ => rfl
  | x :: l, h => by rw [List.flatMap_cons, List.flatMap_cons, h x List.mem_cons_self, flatMap_congr9 (fun y hy => h y (List.mem_cons_of_mem _ hy))]
theorem beh_up {L : FT} : ∀ (n : Nat) (x : Int), hgt L n x → behN L (n + 1) x = behN L n x
  | 0, x, h => by show x :: (chF L x).flatMap _ = [x]; rw [show chF L x = [] from h]; rfl
  | n + 1, x, h => by
    show x :: (chF L x).flatMap (behN L (n + 1)) = x :: (chF L x).flatMap (behN L n)
    rw [flatMap_congr9 (fun c hc => beh_up n c (h c hc))]
theorem beh_eq {L : FT} (h : WF L) (x : Int) : beh L x = x :: (chF L x).flatMap (beh L) := by
  have h1 := beh_up L.length x (hgt_all h x)
  unfold beh
  rw [← h1]
  rfl
theorem mem_behN {L : FT} (h : WF L) : ∀ (n : Nat) (x : Int), hgt L n x → ∀ z, z ∈ behN L n x ↔ z = x ∨ x ∈ abv L z
  | 0, x, hh, z => by
    show z ∈ [x] ↔ _
    rw [List.mem_singleton]
    refine ⟨Or.inl, fun hz => hz.elim id (fun hz => ?_)⟩
    exfalso
    -- the last one ahead of x on z's way is a child of x
    have key : ∀ (l : List Int) (y : Int), IsA L y l → x ∈ l → ∃ c, parO L c = some x := by
      intro l
      induction l with
      | nil => intro y _ hx; cases hx
      | cons a l ih =>
        intro y hy hx
        rcases List.mem_cons.1 hx with e | hx
        · exact ⟨y, by rw [e]; exact hy.1⟩
        · exact ih a hy.2 hx
    obtain ⟨c, hc⟩ := key _ z (h.isA z) hz
    have := (mem_chF h.1).2 hc
    rw [show chF L x = [] from hh] at this
    cases this
  | n + 1, x, hh, z => by
    show z ∈ x :: (chF L x).flatMap (behN L n) ↔ _
    rw [List.mem_cons, List.mem_flatMap]
    refine or_congr Iff.rfl ⟨?_, fun hz => ?_⟩
    · rintro ⟨c, hc, hz⟩
      have hp := (mem_chF h.1).1 hc
      have e1 := abv_some h hp
      rcases (mem_behN h n c (hh c hc) z).1 hz with rfl | hz
      · rw [e1]; exact List.mem_cons_self
      · have key : ∀ (l : List Int) (y : Int), IsA L y l → c ∈ l → x ∈ l := by
          intro l
          induction l with
          | nil => intro y _ hx; cases hx
          | cons a l ih =>
            intro y hy hx
            rcases List.mem_cons.1 hx with e | hx
            · subst e
              have : l = abv L c := hy.2.uniq (h.isA c)
              rw [this, e1]
              exact List.mem_cons_of_mem _ List.mem_cons_self
            · exact List.mem_cons_of_mem _ (ih a hy.2 hx)
        exact key _ z (h.isA z) hz
    · have key : ∀ (l : List Int) (y : Int), IsA L y l → x ∈ l → ∃ c, parO L c = some x ∧ (y = c ∨ c ∈ l) := by
        intro l
        induction l with
        | nil => intro y _ hx; cases hx
        | cons a l ih =>
          intro y hy hx
          rcases List.mem_cons.1 hx with e | hx
          · exact ⟨y, by rw [e]; exact hy.1, Or.inl rfl⟩
          · obtain ⟨c, h1, h2⟩ := ih a hy.2 hx
            exact ⟨c, h1, Or.inr (h2.elim (fun e => by rw [e]; exact List.mem_cons_self) (List.mem_cons_of_mem _))⟩
      obtain ⟨c, hc, hcl⟩ := key _ z (h.isA z) hz
      have hm := (mem_chF h.1).2 hc
      exact ⟨c, hm, (mem_behN h n c (hh c hm) z).2 (hcl.imp id id)⟩
theorem mem_beh {L : FT} (h : WF L) {x z : Int} : z ∈ beh L x ↔ z = x ∨ x ∈ abv L z := mem_behN h _ x (hgt_all h x) z
theorem abv_trans {L : FT} (h : WF L) {a b c : Int} (h1 : a ∈ abv L b) (h2 : b ∈ abv L c) : a ∈ abv L c := by
  have key : ∀ (l : List Int) (y : Int), IsA L y l → b ∈ l → a ∈ l := by
    intro l
    induction l with
    | nil => intro y _ hx; cases hx
    | cons d l ih =>
      intro y hy hx
      rcases List.mem_cons.1 hx with e | hx
      · subst e
        have : l = abv L b := hy.2.uniq (h.isA b)
        rw [this]
        exact List.mem_cons_of_mem _ h1
      · exact List.mem_cons_of_mem _ (ih d hy.2 hx)
  exact key _ c (h.isA c) h2
theorem no_ring {L : FT} (h : WF L) (x : Int) : x ∉ abv L x := (h.isA x).self
def topB (L : FT) (ns : List Int) (i : Nat) : Bool := (decide (i = 0) || decide (ns.getD i 0 ≠ ns.getD (i - 1) 0)) && (abv L (ns.getD i 0)).all (fun a => !decide (a ∈ ns))
def undN (L : FT) (ns : List Int) (k : Nat) : List Int := (List.range k).flatMap fun i => if topB L ns i then beh L (ns.getD i 0) else []
def undL (L : FT) (l : List Int) : List Int := undN L (sortI l) (sortI l).length
theorem getD_mem {ns : List Int} {i : Nat} (hi : i < ns.length) : ns.getD i 0 ∈ ns := by
  rw [List.getD, List.getElem?_eq_getElem hi]
  exact List.getElem_mem hi
def fsetE (L : FT) (c p : Int) : Int := if c ∈ abv L p ∨ c = p then 8 else 0
def setS9 (L : FT) (c p : Int) : FT := if fsetE L c p = 0 then setF L c p else L
def freeS (L : FT) (xs : List Int) : FT := xs.foldl freeF L
def frN (L : FT) : List Int → Nat
  | [] => 0
  | x :: xs => (if (parO L x).isSome then 1 else 0) + frN (freeF L x) xs
def dropF (L : FT) (x : Int) : FT := freeS (freeF L x) (chF L x)
theorem fset_ok {L : FT} {c p : Int} (h : fsetE L c p = 0) : c ∉ abv L p ∧ c ≠ p := by
  unfold fsetE at h
  by_cases q : c ∈ abv L p ∨ c = p
  · rw [if_pos q] at h; omega
  · exact ⟨fun a => q (Or.inl a), fun a => q (Or.inr a)⟩
theorem WF.set9 {L : FT} (h : WF L) (c p : Int) : WF (setS9 L c p) := by
  unfold setS9
  by_cases q : fsetE L c p = 0
  · rw [if_pos q]
    exact h.set (fset_ok q).2 (fset_ok q).1
  · rw [if_neg q]; exact h
theorem WF.frees : ∀ (xs : List Int) {L : FT}, WF L → WF (freeS L xs)
  | [], _, h => h
  | x :: xs, _, h => WF.frees xs (h.free x)
theorem WF.drop {L : FT} (h : WF L) (x : Int) : WF (dropF L x) := WF.frees _ (h.free x)
theorem free_len (L : FT) (x : Int) : (freeF L x).length ≤ L.length := List.length_filter_le _ _
theorem frees_len : ∀ (xs : List Int) (L : FT), (freeS L xs).length ≤ L.length
  | [], _ => Nat.le_refl _
  | x :: xs, L => Nat.le_trans (frees_len xs (freeF L x)) (free_len L x)
theorem frees_snoc {L : FT} {xs : List Int} {k : Nat} {x : Int} (h : xs[k]? = some x) : freeS L (xs.take (k + 1)) = freeF (freeS L (xs.take k)) x := by
  unfold freeS
  rw [List.take_add_one, h, List.foldl_append]
  rfl
theorem frN_snoc : ∀ {xs : List Int} {L : FT} {k : Nat} {x : Int}, xs[k]? = some x → frN L (xs.take (k + 1)) = frN L (xs.take k) + (if (parO (freeS L (xs.take k)) x).isSome then 1 else 0)
  | [], _, _, _, h => by simp at h
  | a :: xs, L, 0, x, h => by
    simp at h
    subst h
    show (if (parO L a).isSome then 1 else 0) + 0 = 0 + _
    rw [Nat.add_zero, Nat.zero_add]
    rfl
  | a :: xs, L, k + 1, x, h => by
    have ih := frN_snoc (xs := xs) (L := freeF L a) (k := k) (x := x) (by simpa using h)
    rw [List.take_succ_cons, List.take_succ_cons]
    show _ + frN (freeF L a) (xs.take (k + 1)) = _ + frN (freeF L a) (xs.take k) + _
    rw [ih, Nat.add_assoc]
    rfl
theorem frN_le : ∀ (xs : List Int) (L : FT), frN L xs ≤ xs.length
  | [], _ => Nat.le_refl _
  | x :: xs, L => by
    have := frN_le xs (freeF L x)
    show (if (parO L x).isSome then 1 else 0) + frN (freeF L x) xs ≤ xs.length + 1
    split <;> omega

def mkPr (m : Int × Int) : Int × PT := (m.1, m.2, zI, 0, zI, 0, 0, false, 0)
def cPr (x : Int × PT) : List Value := [.int .i64 x.1, .int .i64 x.2.1]
def ColP (w : World) (v : Value) (L : FT) : Prop := ColX w 143 2 cPr v (L.map mkPr)
structure RF (w : World) (g : Nat) (v : Value) (L : FT) : Prop where
  blk : Blk w g 80 #[v]
  col : ColP w v L
  off : v.ownBlock ≠ some g
def footF (g : Nat) (v : Value) (b : Nat) : Prop := b = g ∨ v.ownBlock = some b
def RFB (w : World) (g : Nat) (F : Nat → Prop) (L : FT) : Prop := ∃ v, RF w g v L ∧ ∀ b, F b ↔ footF g v b
def ChF (FB : World → Nat → (Nat → Prop) → FT → Prop) (w w' : World) (g : Nat) (F : Nat → Prop) (L : FT) : Prop := ∃ F', FB w' g F' L ∧ Fr w w' F ∧ ∀ b, F' b → F b ∨ w.heap.size ≤ b
section
variable {w w' : World} {g : Nat} {v : Value} {L : FT} {F : Nat → Prop}
end
theorem ChF.of {FB : World → Nat → (Nat → Prop) → FT → Prop} {w w1 w2 : World} {g : Nat} {F : Nat → Prop} {L : FT} (h : ChF FB w1 w2 g F L) (hb : Below w.heap.size w w1) : ChF FB w w2 g F L := by
  obtain ⟨F', h1, h2, h3⟩ := h
  exact ⟨F', h1, Fr.after hb h2, fun b hf => (h3 b hf).imp_right (fun c => Nat.le_trans hb.size c)⟩
theorem ChF.join {FB : World → Nat → (Nat → Prop) → FT → Prop} {w w1 w2 : World} {g : Nat} {F F' : Nat → Prop} {L : FT} (hfr : Fr w w1 F) (hn : ∀ b, F' b → F b ∨ w.heap.size ≤ b) (k : ChF FB w1 w2 g F' L) : ChF FB w w2 g F L := by
  obtain ⟨F'', k1, k2, k3⟩ := k
  refine ⟨F'', k1, ⟨k2.1.trans hfr.1, k2.2.1.trans hfr.2.1, k2.2.2.1.trans hfr.2.2.1, Nat.le_trans hfr.2.2.2.1 k2.2.2.2.1, fun b hb hnn => ?_⟩, fun b hb => ?_⟩
  · refine (k2.2.2.2.2 b (Nat.lt_of_lt_of_le hb hfr.2.2.2.1) (fun c => ?_)).trans (hfr.2.2.2.2 b hb hnn)
    rcases hn b c with d | d
    · exact hnn d
    · omega
  · rcases k3 b hb with d | d
    · exact hn b d
    · exact Or.inr (Nat.le_trans hfr.2.2.2.1 d)
def parV (o : Option Int) : Int := match o with | some y => y | none => 0
def abM (L : FT) (v : Value) : Nat := (abv L (ivl v)).length + 1
end Go.Proofs.YtkondkajpmafkaaGreat
