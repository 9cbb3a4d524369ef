/-
  4 texts in one file, each with its own heading.
-/
import Derived.Test.YthhfcedhbfandaaGreatMS18
import Derived.Test.YthhfcedhbfandaaGreatMS19
import Derived.Test.YthhfcedhbfandaaGreatMS14
/-
  Layer 10 as plain data: who stands ahead in an order; a node's fate by its way up; what All makes is each node's fate.
-/
namespace Go.Proofs.YthhfcedhbfandaaGreat
open Go.RowKit

theorem flat_in10 {f : Int → List Int} : ∀ {l : List Int} {j : Nat} {z : Int}, (l.flatMap f)[j]? = some z → ∃ a ∈ l, ∃ k, (f a)[k]? = some z ∧ ∀ y ∈ (f a).take k, y ∈ (l.flatMap f).take j
  | [], j, z, h => by simp at h
  | a :: l, j, z, h => by
    rw [List.flatMap_cons] at h
    by_cases c : j < (f a).length
    · rw [List.getElem?_append_left c] at h
      refine ⟨a, List.mem_cons_self, j, h, fun y hy => ?_⟩
      rw [List.flatMap_cons, List.take_append_of_le_length (by omega)]
      exact hy
    · rw [List.getElem?_append_right (by omega)] at h
      obtain ⟨b, hb, k, h1, h2⟩ := flat_in10 h
      refine ⟨b, List.mem_cons_of_mem _ hb, k, h1, fun y hy => ?_⟩
      rw [List.flatMap_cons, List.take_append, List.mem_append]
      exact Or.inr (h2 y hy)
theorem behN_at {L : FT} (h : (L.map Prod.fst).Nodup) : ∀ (n : Nat) (x : Int) {j : Nat} {z : Int}, (behN L n x)[j]? = some z → z = x ∨ ∃ y, parO L z = some y ∧ y ∈ (behN L n x).take j
  | 0, x, j, z, hz => by
    cases j with
    | zero => simp [behN] at hz; exact Or.inl hz.symm
    | succ j => simp [behN] at hz
  | n + 1, x, j, z, hz => by
    cases j with
    | zero => simp [behN] at hz; exact Or.inl hz.symm
    | succ j =>
      have hz' : ((chF L x).flatMap (behN L n))[j]? = some z := by
        have : (x :: (chF L x).flatMap (behN L n))[j + 1]? = some z := hz
        simpa using this
      obtain ⟨c, hc, k, h1, h2⟩ := flat_in10 hz'
      refine Or.inr ?_
      show ∃ y, _ ∧ y ∈ (x :: (chF L x).flatMap (behN L n)).take (j + 1)
      rw [List.take_succ_cons]
      rcases behN_at h n c h1 with rfl | ⟨y, hy, hm⟩
      · exact ⟨x, (mem_chF h).1 hc, List.mem_cons_self⟩
      · exact ⟨y, hy, List.mem_cons_of_mem _ (h2 y hm)⟩
theorem und_at {L : FT} (h : WF L) {l : List Int} {j : Nat} {z y : Int} (hz : (undL L l)[j]? = some z) (hy : parO L z = some y) : y ∈ (undL L l).take j ∨ y ∉ undL L l := by
  have hz2 := hz
  rw [und_tops] at hz2
  obtain ⟨t, ht, k, h1, h2⟩ := flat_in10 hz2
  rcases behN_at h.1 _ _ h1 with e | ⟨y', hy', hm⟩
  · refine Or.inr (fun hc => ?_)
    obtain ⟨a, ha, hya⟩ := (mem_undL h).1 hc
    unfold topL at ht
    rw [List.mem_filter] at ht
    have h3 : a ∈ abv L t := by
      rw [← e, abv_some h hy]
      rcases hya with rfl | hya
      · exact List.mem_cons_self
      · exact List.mem_cons_of_mem _ hya
    have h4 : hasA L (cmpS l) t = true := by
      unfold hasA
      rw [List.any_eq_true]
      exact ⟨a, h3, by simpa using mem_cmpS.2 ha⟩
    rw [h4] at ht
    simp at ht
  · rw [hy] at hy'
    injection hy' with q
    subst q
    rw [und_tops]
    exact Or.inl (h2 _ hm)
theorem cmpS_up (l : List Int) : (cmpS l).Pairwise (· < ·) := by
  have hs := sortI_up l
  unfold cmpS
  rw [cmp_eq]
  refine List.pairwise_map.2 ((List.Pairwise.filter _ List.pairwise_lt_range).imp_of_mem (fun {a b} ha hb c => ?_))
  have hb2 := List.mem_filter.1 hb
  have hbl := List.mem_range.1 hb2.1
  have k1 := up_getD hs (show a ≤ b - 1 by omega) (by omega)
  have k2 := up_getD hs (show b - 1 ≤ b by omega) hbl
  have k3 : (sortI l).getD b 0 ≠ (sortI l).getD (b - 1) 0 := by
    have := hb2.2
    rw [Bool.or_eq_true, decide_eq_true_eq, decide_eq_true_eq] at this
    rcases this with q | q
    · omega
    · exact q
  omega
theorem und_set {L : FT} {l m : List Int} (h : ∀ z, z ∈ l ↔ z ∈ m) : undL L l = undL L m := by
  have hs : cmpS l = cmpS m := up_ext (cmpS_up l) (cmpS_up m) (fun z => by rw [mem_cmpS, mem_cmpS, h])
  rw [und_tops, und_tops]
  unfold topL
  rw [hs]
theorem beh_any {L : FT} (h : WF L) (x : Int) : ∀ k, behN L (L.length + k) x = beh L x ∧ hgt L (L.length + k) x
  | 0 => ⟨rfl, hgt_all h x⟩
  | k + 1 => by
    obtain ⟨h1, h2⟩ := beh_any h x k
    exact ⟨(beh_up _ x h2).trans h1, hgt_up _ x h2⟩
theorem und_same {T U : FT} (hT : WF T) (hU : WF U) {N : Int → Prop} {l : List Int} (hl : ∀ x ∈ l, N x) (hc : ∀ x, N x → chF T x = chF U x) (hcn : ∀ x, N x → ∀ c ∈ chF T x, N c) (ha : ∀ x y, N x → N y → (y ∈ abv T x ↔ y ∈ abv U x)) : undL T l = undL U l := by
  have hb : ∀ (n : Nat) (x : Int), N x → behN T n x = behN U n x := by
    intro n
    induction n with
    | zero => exact fun _ _ => rfl
    | succ n ih =>
      intro x hx
      show x :: (chF T x).flatMap (behN T n) = x :: (chF U x).flatMap (behN U n)
      rw [← hc x hx]
      congr 1
      exact flatMap_congr9 (fun c k => ih c (hcn x hx c k))
  have hbb : ∀ x, N x → beh T x = beh U x := fun x hx => by
    rw [← (beh_any hT x U.length).1, ← (beh_any hU x T.length).1, Nat.add_comm U.length T.length]
    exact hb _ x hx
  have hN : ∀ x ∈ cmpS l, N x := fun x hx => hl x (mem_cmpS.1 hx)
  have ht : topL T l = topL U l := by
    unfold topL
    refine List.filter_congr (fun x hx => ?_)
    congr 1
    unfold hasA
    rw [Bool.eq_iff_iff, List.any_eq_true, List.any_eq_true]
    constructor
    · rintro ⟨a, h1, h2⟩
      have h3 : a ∈ cmpS l := by simpa using h2
      exact ⟨a, (ha x a (hN x hx) (hN a h3)).1 h1, h2⟩
    · rintro ⟨a, h1, h2⟩
      have h3 : a ∈ cmpS l := by simpa using h2
      exact ⟨a, (ha x a (hN x hx) (hN a h3)).2 h1, h2⟩
  rw [und_tops, und_tops, ht]
  refine flatMap_congr9 (fun x hx => hbb x (hN x ?_))
  rw [← ht] at hx
  unfold topL at hx
  exact (List.mem_filter.1 hx).1
theorem el_some {α : Type} {f : α → Int} {L : List α} {x : Int} {n : α} (h : elF f L x = some n) : f n = x ∧ n ∈ L := by
  unfold elF at h
  exact ⟨by simpa using List.find?_some h, List.mem_of_find?_eq_some h⟩
theorem el_none {α : Type} {f : α → Int} {L : List α} {x : Int} : elF f L x = none ↔ ∀ n ∈ L, f n ≠ x := by
  unfold elF
  rw [List.find?_eq_none]
  exact ⟨fun h n hn => by simpa using h n hn, fun h n hn => by simpa using h n hn⟩
theorem el_isSome {α : Type} {f : α → Int} {L : List α} {x : Int} : (elF f L x).isSome = true ↔ ∃ n ∈ L, f n = x := by
  cases h : elF f L x with
  | none =>
    exact ⟨fun c => (by cases c), fun ⟨n, hn, e⟩ => absurd e (el_none.1 h n hn)⟩
  | some n => exact ⟨fun _ => ⟨n, (el_some h).2, (el_some h).1⟩, fun _ => rfl⟩
theorem el_of_mem {α : Type} {f : α → Int} {L : List α} (hn : (L.map f).Nodup) {n : α} (h : n ∈ L) : elF f L (f n) = some n := by
  unfold elF
  induction L with
  | nil => cases h
  | cons m L ih =>
    rw [List.map_cons, List.nodup_cons] at hn
    rw [List.find?_cons]
    rcases List.mem_cons.1 h with rfl | h
    · simp
    · have : f m ≠ f n := fun e => hn.1 (List.mem_map.2 ⟨n, h, e.symm⟩)
      rw [show (f m == f n) = false by simpa using this]
      exact ih hn.2 h
theorem mem_names {L : List Nd} {x : Int} : x ∈ namesN L ↔ (elF Nd.id L x).isSome = true := by
  unfold namesN
  rw [(sortI_perm _).mem_iff, el_isSome, List.mem_map]
theorem names_len (L : List Nd) : (namesN L).length = L.length := by
  unfold namesN
  rw [(sortI_perm _).length_eq, List.length_map]
theorem abv_node {L : List Nd} (hW : WF (treesN L)) {x y : Int} (h : y ∈ abv (treesN L) x) : (elF Nd.id L y).isSome = true := by
  have key : ∀ (l : List Int) (x : Int), IsA (treesN L) x l → y ∈ l → (elF Nd.id L y).isSome = true := by
    intro l
    induction l with
    | nil => intro x _ hy; cases hy
    | cons a l ih =>
      intro x hx hy
      rcases List.mem_cons.1 hy with rfl | hy
      · have h1 := mem_trees.1 (par_mem hx.1)
        have h2 := hangs_on h1.2.1
        rw [← h1.2.2] at h2
        exact el_isSome.2 h2
      · exact ih a hx.2 hy
  exact key _ x (hW.isA x) h
theorem order_mem {L : List Nd} (hW : WF (treesN L)) {x : Int} : x ∈ orderN L ↔ (elF Nd.id L x).isSome = true := by
  constructor
  · intro h
    obtain ⟨n, e⟩ := order_nd hW h
    rw [e]; rfl
  · intro h
    exact (mem_undL hW).2 ⟨x, mem_names.2 h, Or.inl rfl⟩
def fateL (L : List Nd) : List Int → Int → Option Stt × Int
  | [], x => match elF Nd.id L x with
    | none => (none, 0)
    | some n => (some ⟨n.id, n.pl, !n.hid⟩, 0)
  | y :: l, x => match elF Nd.id L x with
    | none => (none, 0)
    | some n => match (fateL L l y).1 with
      | none => (none, 0)
      | some u => if 16 < l.length + 2 then (none, 7) else if prodE2 u.wo n.pl = 0 then (some ⟨n.id, prodM u.wo n.pl, u.sh && !n.hid⟩, 0) else (none, prodE2 u.wo n.pl)
def fate (L : List Nd) (x : Int) : Option Stt × Int := fateL L (abv (treesN L) x) x
theorem fateL_congr {L L' : List Nd} : ∀ {l : List Int} {x : Int}, (∀ y ∈ x :: l, elF Nd.id L y = elF Nd.id L' y) → fateL L l x = fateL L' l x
  | [], x, h => by unfold fateL; rw [h x List.mem_cons_self]
  | y :: l, x, h => by
    unfold fateL
    rw [h x List.mem_cons_self, fateL_congr (fun z hz => h z (List.mem_cons_of_mem _ hz))]
theorem fateL_id {L : List Nd} {l : List Int} {x : Int} {s : Stt} (h : (fateL L l x).1 = some s) : s.id = x ∧ (fateL L l x).2 = 0 ∧ (elF Nd.id L x).isSome = true := by
  cases l with
  | nil =>
    unfold fateL at h ⊢
    cases e : elF Nd.id L x with
    | none => rw [e] at h; cases h
    | some n =>
      rw [e] at h
      injection h with h
      rw [← h]
      exact ⟨(el_some e).1, rfl, rfl⟩
  | cons y l =>
    unfold fateL at h ⊢
    cases e : elF Nd.id L x with
    | none => rw [e] at h; cases h
    | some n =>
      rw [e] at h
      cases q : (fateL L l y).1 with
      | none => simp only [q] at h; cases h
      | some u =>
        simp only [q] at h ⊢
        by_cases c : 16 < l.length + 2
        · rw [if_pos c] at h; cases h
        · rw [if_neg c] at h ⊢
          by_cases d : prodE2 u.wo n.pl = 0
          · rw [if_pos d] at h ⊢
            injection h with h
            rw [← h]
            exact ⟨(el_some e).1, rfl, rfl⟩
          · rw [if_neg d] at h; cases h
theorem fate_id {L : List Nd} {x : Int} {s : Stt} (h : (fate L x).1 = some s) : s.id = x ∧ (fate L x).2 = 0 ∧ (elF Nd.id L x).isSome = true := fateL_id h
theorem fate_no {L : List Nd} {x : Int} (h : elF Nd.id L x = none) : fate L x = (none, 0) := by
  unfold fate
  cases abv (treesN L) x with
  | nil => unfold fateL; rw [h]
  | cons y l => unfold fateL; rw [h]
section
variable {L : List Nd}
theorem fate_root (hn : (L.map Nd.id).Nodup) (hW : WF (treesN L)) {x : Int} {n : Nd} (h : elF Nd.id L x = some n) (hh : hangs L x < 0) : fate L x = (some ⟨n.id, n.pl, !n.hid⟩, 0) := by
  unfold fate
  rw [abv_none hW (by rw [par_trees hn, if_neg (by omega)])]
  unfold fateL
  rw [h]
theorem fate_on (hn : (L.map Nd.id).Nodup) (hW : WF (treesN L)) {x : Int} {n : Nd} (h : elF Nd.id L x = some n) (hh : 0 ≤ hangs L x) : fate L x = match (fate L (hangs L x)).1 with
      | none => (none, 0)
      | some u => if 16 < (abv (treesN L) x).length + 1 then (none, 7) else if prodE2 u.wo n.pl = 0 then (some ⟨n.id, prodM u.wo n.pl, u.sh && !n.hid⟩, 0) else (none, prodE2 u.wo n.pl) := by
  have h1 := abv_some hW (show parO (treesN L) x = some (hangs L x) by rw [par_trees hn, if_pos hh])
  unfold fate
  rw [h1]
  show fateL L (hangs L x :: _) x = _
  rw [fateL, h]
  rfl
def LeastOk (L : List Nd) (P : List Int) (least e : Int) : Prop := (least = -1 ∧ e = 0 ∧ ∀ x ∈ P, (fate L x).2 = 0) ∨ (least ∈ P ∧ (fate L least).2 = e ∧ e ≠ 0 ∧ ∀ x ∈ P, (fate L x).2 ≠ 0 → least ≤ x)
theorem find_fates {P : List Int} {y : Int} : elF Stt.id (P.filterMap (fun x => (fate L x).1)) y = if y ∈ P then (fate L y).1 else none := by
  induction P with
  | nil => rfl
  | cons a P ih =>
    cases q : (fate L a).1 with
    | none =>
      rw [List.filterMap_cons_none (f := fun x => (fate L x).1) q, ih]
      by_cases c : y ∈ P
      · rw [if_pos c, if_pos (List.mem_cons_of_mem _ c)]
      · rw [if_neg c]
        by_cases d : y = a
        · rw [if_pos (by rw [d]; exact List.mem_cons_self), d, q]
        · rw [if_neg (fun k => (List.mem_cons.1 k).elim d c)]
    | some s =>
      rw [List.filterMap_cons_some (f := fun x => (fate L x).1) q]
      have hs := (fate_id q).1
      unfold elF at ih ⊢
      rw [List.find?_cons]
      by_cases d : y = a
      · rw [if_pos (by rw [d]; exact List.mem_cons_self), d, q, hs]
        simp
      · rw [show (s.id == y) = false by rw [hs]; simpa using fun k => d k.symm]
        rw [ih]
        by_cases c : y ∈ P
        · rw [if_pos c, if_pos (List.mem_cons_of_mem _ c)]
        · rw [if_neg c, if_neg (fun k => (List.mem_cons.1 k).elim d c)]
theorem least_ok {P : List Int} {x least e : Int} (h : LeastOk L P least e) (hx : (fate L x).2 = 0) : LeastOk L (P ++ [x]) least e := by
  rcases h with ⟨h1, h2, h3⟩ | ⟨h1, h2, h3, h4⟩
  · refine Or.inl ⟨h1, h2, fun z hz => ?_⟩
    rcases List.mem_append.1 hz with q | q
    · exact h3 z q
    · rw [List.mem_singleton.1 q]; exact hx
  · refine Or.inr ⟨List.mem_append_left _ h1, h2, h3, fun z hz hf => ?_⟩
    rcases List.mem_append.1 hz with q | q
    · exact h4 z q hf
    · rw [List.mem_singleton.1 q] at hf; exact absurd hx hf
theorem least_bad {P : List Int} {s : Acc} {x e : Int} (hP : ∀ z ∈ P, 0 ≤ z) (h : LeastOk L P s.least s.e) (hx : (fate L x).2 = e) (he : e ≠ 0) : LeastOk L (P ++ [x]) (failA s x e).least (failA s x e).e ∧ (failA s x e).out = s.out := by
  unfold failA
  by_cases c : s.least < 0 ∨ x < s.least
  · rw [if_pos c]
    refine ⟨Or.inr ⟨List.mem_append_right _ (List.mem_singleton.2 rfl), hx, he, fun z hz hf => ?_⟩, rfl⟩
    show x ≤ z
    rcases List.mem_append.1 hz with q | q
    · rcases h with ⟨h1, h2, h3⟩ | ⟨h1, h2, h3, h4⟩
      · exact absurd (h3 z q) hf
      · have k1 := h4 z q hf
        have k2 := hP _ h1
        omega
    · rw [List.mem_singleton.1 q]; exact Int.le_refl _
  · rw [if_neg c]
    refine ⟨?_, rfl⟩
    rcases h with ⟨h1, h2, h3⟩ | ⟨h1, h2, h3, h4⟩
    · omega
    · refine Or.inr ⟨List.mem_append_left _ h1, h2, h3, fun z hz hf => ?_⟩
      rcases List.mem_append.1 hz with q | q
      · exact h4 z q hf
      · rw [List.mem_singleton.1 q]; omega
theorem all_take (hn : (L.map Nd.id).Nodup) (hW : WF (treesN L)) (hnn : ∀ n ∈ L, 0 ≤ n.id) : ∀ j, j ≤ (orderN L).length → (((orderN L).take j).foldl (allA L) ⟨[], -1, 0⟩).out = ((orderN L).take j).filterMap (fun x => (fate L x).1) ∧ LeastOk L ((orderN L).take j) (((orderN L).take j).foldl (allA L) ⟨[], -1, 0⟩).least (((orderN L).take j).foldl (allA L) ⟨[], -1, 0⟩).e
  | 0, _ => ⟨rfl, Or.inl ⟨rfl, rfl, fun x hx => by simp at hx⟩⟩
  | j + 1, hj => by
    obtain ⟨ih1, ih2⟩ := all_take hn hW hnn j (by omega)
    have hx : (orderN L)[j]? = some ((orderN L)[j]'(by omega)) := List.getElem?_eq_getElem (by omega)
    obtain ⟨x, ex⟩ : ∃ x, x = (orderN L)[j]'(by omega) := ⟨_, rfl⟩
    rw [← ex] at hx
    rw [fold_step hx]
    obtain ⟨s, es⟩ : ∃ s, s = ((orderN L).take j).foldl (allA L) ⟨[], -1, 0⟩ := ⟨_, rfl⟩
    rw [← es] at ih1 ih2 ⊢
    have ht : (orderN L).take (j + 1) = (orderN L).take j ++ [x] := by rw [List.take_add_one, hx]; rfl
    have hP : ∀ z ∈ (orderN L).take j, 0 ≤ z := fun z hz => by
      obtain ⟨n, e⟩ := order_nd hW (List.mem_of_mem_take hz)
      have := hnn n (el_some e).2
      rw [(el_some e).1] at this
      exact this
    rw [ht, List.filterMap_append, List.filterMap_cons, List.filterMap_nil]
    obtain ⟨n, en⟩ := order_nd hW (List.mem_of_getElem? hx)
    have eid := (el_some en).1
    unfold allA
    rw [en]
    simp only [eid]
    by_cases c : hangs L x < 0
    · rw [if_pos c]
      have hf := fate_root hn hW en c
      rw [hf, eid]
      exact ⟨by rw [ih1], least_ok ih2 (by rw [hf])⟩
    · rw [if_neg c]
      have hp : parO (treesN L) x = some (hangs L x) := by rw [par_trees hn, if_pos (by omega)]
      have hy : hangs L x ∈ (orderN L).take j := by
        rcases und_at hW hx hp with q | q
        · exact q
        · exact absurd ((order_mem hW).2 (el_isSome.2 (hangs_on (show 0 ≤ hangs L x by omega)))) q
      have hf := fate_on hn hW en (by omega)
      rw [ih1, find_fates, if_pos hy]
      cases q : (fate L (hangs L x)).1 with
      | none =>
        rw [q] at hf
        rw [hf]
        exact ⟨by rw [ih1]; simp, least_ok ih2 (by rw [hf])⟩
      | some u =>
        rw [q] at hf
        simp only at hf ⊢
        by_cases d : 16 < (abv (treesN L) x).length + 1
        · rw [if_pos d] at hf ⊢
          have hb := least_bad hP ih2 (x := x) (e := 7) (by rw [hf]) (by omega)
          rw [hf]
          exact ⟨by rw [hb.2, ih1]; simp, hb.1⟩
        · rw [if_neg d] at hf ⊢
          by_cases e0 : prodE2 u.wo n.pl = 0
          · rw [if_pos e0] at hf ⊢
            rw [hf, eid]
            exact ⟨by simp, least_ok ih2 (by rw [hf])⟩
          · rw [if_neg e0] at hf ⊢
            have hb := least_bad hP ih2 (x := x) (e := prodE2 u.wo n.pl) (by rw [hf]) e0
            rw [hf]
            exact ⟨by rw [hb.2, ih1]; simp, hb.1⟩
theorem all_out (hn : (L.map Nd.id).Nodup) (hW : WF (treesN L)) (hnn : ∀ n ∈ L, 0 ≤ n.id) : (allN L).out = (orderN L).filterMap (fun x => (fate L x).1) := by
  have := (all_take hn hW hnn _ (Nat.le_refl _)).1
  rw [List.take_length] at this
  exact this
theorem all_least (hn : (L.map Nd.id).Nodup) (hW : WF (treesN L)) (hnn : ∀ n ∈ L, 0 ≤ n.id) : LeastOk L (orderN L) (allN L).least (allN L).e := by
  have := (all_take hn hW hnn _ (Nat.le_refl _)).2
  rw [List.take_length] at this
  exact this
theorem all_find (hn : (L.map Nd.id).Nodup) (hW : WF (treesN L)) (hnn : ∀ n ∈ L, 0 ≤ n.id) (x : Int) : elF Stt.id (allN L).out x = (fate L x).1 := by
  rw [all_out hn hW hnn, find_fates]
  by_cases c : x ∈ orderN L
  · rw [if_pos c]
  · rw [if_neg c, fate_no]
    cases h : elF Nd.id L x with
    | none => rfl
    | some n => exact absurd ((order_mem hW).2 (by rw [h]; rfl)) c
theorem all_zero (hn : (L.map Nd.id).Nodup) (hW : WF (treesN L)) (hnn : ∀ n ∈ L, 0 ≤ n.id) (h : (allN L).e = 0) (x : Int) : (fate L x).2 = 0 := by
  rcases all_least hn hW hnn with ⟨_, _, h3⟩ | ⟨_, _, h3, _⟩
  · by_cases c : x ∈ orderN L
    · exact h3 x c
    · rw [fate_no]
      cases h : elF Nd.id L x with
      | none => rfl
      | some n => exact absurd ((order_mem hW).2 (by rw [h]; rfl)) c
  · exact absurd h h3
theorem fate_all (hn : (L.map Nd.id).Nodup) (hW : WF (treesN L)) (h : ∀ x, (fate L x).2 = 0) {x : Int} (hx : (elF Nd.id L x).isSome = true) : ∃ s, fate L x = (some s, 0) := by
  have key : ∀ (l : List Int) (x : Int), IsA (treesN L) x l → (elF Nd.id L x).isSome = true → ∃ s, fate L x = (some s, 0) := by
    intro l
    induction l with
    | nil =>
      intro x hx hs
      obtain ⟨n, e⟩ := Option.isSome_iff_exists.1 hs
      have h1 : parO (treesN L) x = none := hx
      rw [par_trees hn] at h1
      by_cases c : 0 ≤ hangs L x
      · rw [if_pos c] at h1; cases h1
      · exact ⟨_, fate_root hn hW e (by omega)⟩
    | cons y l ih =>
      intro x hx hs
      obtain ⟨n, e⟩ := Option.isSome_iff_exists.1 hs
      have h1 := hx.1
      rw [par_trees hn] at h1
      by_cases c : 0 ≤ hangs L x
      · rw [if_pos c] at h1
        injection h1 with h1
        obtain ⟨u, hu⟩ := ih y hx.2 (by rw [← h1]; exact el_isSome.2 (hangs_on c))
        have hf := fate_on hn hW e c
        rw [h1, hu] at hf
        simp only at hf
        have h0 := h x
        by_cases d : 16 < (abv (treesN L) x).length + 1
        · rw [if_pos d] at hf; rw [hf] at h0; simp at h0
        · rw [if_neg d] at hf
          by_cases e0 : prodE2 u.wo n.pl = 0
          · rw [if_pos e0] at hf; exact ⟨_, hf⟩
          · rw [if_neg e0] at hf; rw [hf] at h0; exact absurd h0 e0
      · rw [if_neg c] at h1; cases h1
  exact key _ x (hW.isA x) hx
end
structure DOk (D : FD) : Prop where
  nod : (D.L.map Nd.id).Nodup
  wf : WF (treesN D.L)
  ok : ∀ n ∈ D.L, okM n.pl = true
  nn : ∀ n ∈ D.L, 0 ≤ n.id
  rg : ∀ n ∈ D.L, Rg n.id ∧ Rg n.par
  st : D.begun = true → ∀ x, (elF Nd.id D.L x).isSome = true → x ∉ touchN D → ∃ s, fate D.L x = (some s, 0) ∧ elF Stt.id D.sts x = some s
theorem DOk.zero : DOk FD0 := ⟨List.nodup_nil, WF.nil, fun n h => (by cases h), fun n h => (by cases h), fun n h => (by cases h), fun h => (by cases h)⟩
theorem mem_touch {D : FD} (hW : WF (treesN D.L)) {x : Int} : x ∈ touchN D ↔ ∃ y ∈ dirtyN D, x = y ∨ y ∈ abv (treesN D.L) x := mem_undL hW
theorem mem_dirty {D : FD} (hb : D.begun = true) {y : Int} : y ∈ dirtyN D ↔ y ∈ D.dirty ∧ (elF Nd.id D.L y).isSome = true := by
  unfold dirtyN
  rw [if_pos hb, List.mem_filter, decide_eq_true_eq, mem_names]
theorem dirty_node {D : FD} {y : Int} (h : y ∈ dirtyN D) : (elF Nd.id D.L y).isSome = true := by
  by_cases hb : D.begun = true
  · exact ((mem_dirty hb).1 h).2
  · unfold dirtyN at h
    rw [if_neg hb] at h
    exact mem_names.1 h
theorem touch_node {D : FD} (hW : WF (treesN D.L)) {x : Int} (h : x ∈ touchN D) : (elF Nd.id D.L x).isSome = true := by
  obtain ⟨y, hy, hxy⟩ := (mem_touch hW).1 h
  rcases hxy with rfl | hxy
  · exact dirty_node hy
  · have h1 := abv_fst hW hxy
    rw [trees_fst] at h1
    obtain ⟨m, hm, e⟩ := List.mem_map.1 h1
    exact el_isSome.2 ⟨m, (List.mem_filter.1 hm).1, e⟩
theorem touch_len {D : FD} (hW : WF (treesN D.L)) : (touchN D).length ≤ D.L.length := by
  have := pigeon (m := D.L.map Nd.id) (undL_nod hW (dirtyN D)) (fun z hz => by
    obtain ⟨n, hn, e⟩ := el_isSome.1 (touch_node hW hz)
    exact List.mem_map.2 ⟨n, hn, e⟩)
  rw [List.length_map] at this
  exact this
theorem way_stay {L L' : List Nd} {d : List Int} (hn : (L.map Nd.id).Nodup) (hn' : (L'.map Nd.id).Nodup) (hel : ∀ y, y ∉ d → (elF Nd.id L' y).isSome = true → elF Nd.id L' y = elF Nd.id L y)
    (hha : ∀ y, y ∉ d → (elF Nd.id L' y).isSome = true → (0 ≤ hangs L' y → hangs L' y ∉ d) → hangs L' y = hangs L y) :
    ∀ (l : List Int) (x : Int), IsA (treesN L') x l → (elF Nd.id L' x).isSome = true → (∀ y ∈ x :: l, y ∉ d) → IsA (treesN L) x l ∧ ∀ y ∈ x :: l, elF Nd.id L' y = elF Nd.id L y
  | [], x, h, hs, hd => by
    have h0 : ¬ 0 ≤ hangs L' x := fun c => by
      have h1 : parO (treesN L') x = none := h
      rw [par_trees hn', if_pos c] at h1
      cases h1
    have e := hha x (hd x List.mem_cons_self) hs (fun c => absurd c h0)
    refine ⟨?_, fun y hy => by rw [List.mem_singleton.1 hy]; exact hel x (hd x List.mem_cons_self) hs⟩
    show parO (treesN L) x = none
    rw [par_trees hn, if_neg (by rw [← e]; exact h0)]
  | y :: l, x, h, hs, hd => by
    have h1 := h.1
    rw [par_trees hn'] at h1
    by_cases c : 0 ≤ hangs L' x
    · rw [if_pos c] at h1
      injection h1 with h1
      have hy : (elF Nd.id L' y).isSome = true := by rw [← h1]; exact el_isSome.2 (hangs_on c)
      have e := hha x (hd x List.mem_cons_self) hs (fun _ => by rw [h1]; exact hd y (List.mem_cons_of_mem _ List.mem_cons_self))
      obtain ⟨k1, k2⟩ := way_stay hn hn' hel hha l y h.2 hy (fun z hz => hd z (List.mem_cons_of_mem _ hz))
      refine ⟨⟨by rw [par_trees hn, if_pos (by rw [← e]; exact c), ← e, h1], k1⟩, fun z hz => ?_⟩
      rcases List.mem_cons.1 hz with rfl | hz
      · exact hel z (hd z List.mem_cons_self) hs
      · exact k2 z hz
    · rw [if_neg c] at h1; cases h1
theorem st_stay {D D' : FD} (h : DOk D) (hn' : (D'.L.map Nd.id).Nodup) (hW' : WF (treesN D'.L)) (hb : D'.begun = D.begun) (hs : D'.sts = D.sts) (hd : ∀ z ∈ D.dirty, z ∈ D'.dirty)
    (hel : ∀ y, y ∉ D'.dirty → (elF Nd.id D'.L y).isSome = true → elF Nd.id D'.L y = elF Nd.id D.L y)
    (hha : ∀ y, y ∉ D'.dirty → (elF Nd.id D'.L y).isSome = true → (0 ≤ hangs D'.L y → hangs D'.L y ∉ D'.dirty) → hangs D'.L y = hangs D.L y) :
    D'.begun = true → ∀ x, (elF Nd.id D'.L x).isSome = true → x ∉ touchN D' → ∃ s, fate D'.L x = (some s, 0) ∧ elF Stt.id D'.sts x = some s := by
  intro hb' x hx ht
  have hnd : ∀ y ∈ x :: abv (treesN D'.L) x, y ∉ D'.dirty := fun y hy hyd => ht ((mem_touch hW').2 (by
    rcases List.mem_cons.1 hy with rfl | hy
    · exact ⟨y, (mem_dirty hb').2 ⟨hyd, hx⟩, Or.inl rfl⟩
    · exact ⟨y, (mem_dirty hb').2 ⟨hyd, abv_node hW' hy⟩, Or.inr hy⟩))
  obtain ⟨k1, k2⟩ := way_stay h.nod hn' hel hha (abv (treesN D'.L) x) x (hW'.isA x) hx hnd
  have ea : abv (treesN D.L) x = abv (treesN D'.L) x := (h.wf.isA x).uniq k1
  obtain ⟨s, f1, f2⟩ := h.st (hb ▸ hb') x (by rw [← k2 x List.mem_cons_self]; exact hx) (fun c => by
    obtain ⟨y, hy, hxy⟩ := (mem_touch h.wf).1 c
    have hyd := hd y ((mem_dirty (hb ▸ hb')).1 hy).1
    refine hnd y ?_ hyd
    rcases hxy with rfl | q
    · exact List.mem_cons_self
    · rw [ea] at q; exact List.mem_cons_of_mem _ q)
  refine ⟨s, ?_, by rw [hs]; exact f2⟩
  rw [← f1]
  unfold fate
  rw [ea]
  exact fateL_congr k2
theorem el_ext {L L' : List Nd} (hn' : (L'.map Nd.id).Nodup) {y : Int} (h : ∀ m : Nd, m.id = y → (m ∈ L ↔ m ∈ L')) : elF Nd.id L y = elF Nd.id L' y := by
  cases e : elF Nd.id L y with
  | none =>
    symm
    rw [el_none]
    exact fun n hn q => el_none.1 e n ((h n q).2 hn) q
  | some n =>
    have h1 := el_some e
    have := el_of_mem hn' ((h n h1.1).1 h1.2)
    rw [h1.1] at this
    exact this.symm
theorem mem_withN {L : List Nd} {n m : Nd} : m ∈ withN L n ↔ (m ∈ L ∧ m.id ≠ n.id) ∨ m = n := by
  unfold withN
  rw [List.mem_append, List.mem_filter, List.mem_singleton]
  simp
theorem withN_nod {L : List Nd} (h : (L.map Nd.id).Nodup) (n : Nd) : ((withN L n).map Nd.id).Nodup := by
  unfold withN
  rw [List.map_append]
  refine List.nodup_append.2 ⟨h.sublist (List.Sublist.map _ List.filter_sublist), by simp, fun a ha b hb e => ?_⟩
  obtain ⟨m, hm, rfl⟩ := List.mem_map.1 ha
  have h1 := (List.mem_filter.1 hm).2
  simp at hb h1
  exact h1 (e.trans hb)
theorem withS_nod : ∀ (l : List Nd) {L : List Nd}, (L.map Nd.id).Nodup → ((withS L l).map Nd.id).Nodup
  | [], _, h => h
  | n :: l, _, h => withS_nod l (withN_nod h n)
theorem withS_or : ∀ {l L : List Nd} {m : Nd}, m ∈ withS L l → m ∈ L ∨ m ∈ l
  | [], _, _, h => Or.inl h
  | n :: l, L, m, h => by
    rcases withS_or (l := l) (L := withN L n) h with q | q
    · rcases mem_withN.1 q with q | rfl
      · exact Or.inl q.1
      · exact Or.inr List.mem_cons_self
    · exact Or.inr (List.mem_cons_of_mem _ q)
theorem withS_other : ∀ {l L : List Nd} {m : Nd}, m.id ∉ l.map Nd.id → (m ∈ withS L l ↔ m ∈ L)
  | [], _, _, _ => Iff.rfl
  | n :: l, L, m, h => by
    rw [List.map_cons, List.mem_cons, not_or] at h
    have := withS_other (l := l) (L := withN L n) (m := m) h.2
    refine this.trans ?_
    rw [mem_withN]
    exact ⟨fun q => q.elim And.left (fun e => absurd (congrArg Nd.id e) h.1), fun q => Or.inl ⟨q, h.1⟩⟩
theorem withS_id : ∀ {l L : List Nd} {x : Int}, x ∈ (withS L l).map Nd.id ↔ x ∈ L.map Nd.id ∨ x ∈ l.map Nd.id
  | [], L, x => by simp [withS]
  | n :: l, L, x => by
    have := withS_id (l := l) (L := withN L n) (x := x)
    refine this.trans ?_
    rw [List.map_cons, List.mem_cons, ← or_assoc]
    refine or_congr ?_ Iff.rfl
    rw [List.mem_map, List.mem_map]
    constructor
    · rintro ⟨m, hm, rfl⟩
      rcases mem_withN.1 hm with q | rfl
      · exact Or.inl ⟨m, q.1, rfl⟩
      · exact Or.inr rfl
    · rintro (⟨m, hm, rfl⟩ | rfl)
      · by_cases c : m.id = n.id
        · exact ⟨n, mem_withN.2 (Or.inr rfl), c.symm⟩
        · exact ⟨m, mem_withN.2 (Or.inl ⟨hm, c⟩), rfl⟩
      · exact ⟨n, mem_withN.2 (Or.inr rfl), rfl⟩
theorem el_id {L : List Nd} {x : Int} : (elF Nd.id L x).isSome = true ↔ x ∈ L.map Nd.id := by rw [el_isSome, List.mem_map]
theorem none_iff {α : Type} {o : Option α} : o.isNone = true ↔ ¬ o.isSome = true := by cases o <;> simp
theorem putFE_zero {D : FD} {l : List Nd} (h : putFE D l = 0) : (∀ n ∈ l, okM n.pl = true ∧ 0 ≤ n.id) ∧ ∀ n ∈ withS D.L l, ringB (withS D.L l) n.id = false := by
  unfold putFE at h
  by_cases c : l.any badN = true
  · rw [if_pos c] at h; omega
  · rw [if_neg c] at h
    by_cases d : (withS D.L l).any (fun n => ringB (withS D.L l) n.id) = true
    · rw [if_pos d] at h; omega
    · refine ⟨fun n hn => ?_, fun n hn => ?_⟩
      · have h1 : ¬ badN n = true := fun q => c (List.any_eq_true.2 ⟨n, hn, q⟩)
        unfold badN at h1
        rw [Bool.or_eq_true, Bool.not_eq_true', decide_eq_true_eq, not_or] at h1
        exact ⟨by simpa using h1.1, by omega⟩
      · cases q : ringB (withS D.L l) n.id with
        | false => rfl
        | true => exact absurd (List.any_eq_true.2 ⟨n, hn, q⟩) d
theorem DOk.put {D : FD} (h : DOk D) {l : List Nd} (hl : ∀ n ∈ l, Rg n.id ∧ Rg n.par) : DOk (putFD D l) := by
  unfold putFD
  by_cases c : putFE D l = 0
  · rw [if_pos c]
    obtain ⟨h1, h2⟩ := putFE_zero c
    have hn' : ((withS D.L l).map Nd.id).Nodup := withS_nod l h.nod
    have hW' := tree_wf hn' h2
    have hel : ∀ y, y ∉ D.dirty ++ l.map Nd.id → elF Nd.id (withS D.L l) y = elF Nd.id D.L y := fun y hy =>
      el_ext h.nod (fun m hm => withS_other (by rw [hm]; exact fun q => hy (List.mem_append_right _ q)))
    refine ⟨hn', hW', fun n hn => ?_, fun n hn => ?_, fun n hn => ?_, st_stay (D := D) (D' := { D with L := withS D.L l, dirty := D.dirty ++ l.map Nd.id }) h hn' hW' rfl rfl (fun z hz => List.mem_append_left _ hz) (fun y hy _ => hel y hy) (fun y hy hs hh => ?_)⟩
    · exact (withS_or hn).elim (h.ok n) (fun q => (h1 n q).1)
    · exact (withS_or hn).elim (h.nn n) (fun q => (h1 n q).2)
    · exact (withS_or hn).elim (h.rg n) (hl n)
    · obtain ⟨n, e⟩ := Option.isSome_iff_exists.1 hs
      have e' : elF Nd.id D.L y = some n := (hel y hy).symm.trans e
      have k1 := hangs_some e
      have k2 := hangs_some e'
      show hangs (withS D.L l) y = hangs D.L y
      have hh' : 0 ≤ hangs (withS D.L l) y → hangs (withS D.L l) y ∉ D.dirty ++ l.map Nd.id := hh
      rw [k1] at hh'
      rw [k1, k2]
      by_cases p0 : n.par < 0
      · rw [if_pos (Or.inl p0), if_pos (Or.inl p0)]
      · by_cases p1 : (elF Nd.id (withS D.L l) n.par).isNone = true
        · have p2 : (elF Nd.id D.L n.par).isNone = true := by
            rw [none_iff, el_id] at p1 ⊢
            exact fun q => p1 (withS_id.2 (Or.inl q))
          rw [if_pos (Or.inr p1), if_pos (Or.inr p2)]
        · rw [if_neg (fun q => q.elim p0 p1)] at hh' ⊢
          have := hel _ (hh' (by omega))
          rw [this] at p1
          rw [if_neg (fun q => q.elim p0 p1)]
  · rw [if_neg c]; exact h
theorem hangs_cut {L : List Nd} (hn : (L.map Nd.id).Nodup) {x y : Int} (hy : y ≠ x) : hangs (L.filter (fun m => m.id != x)) y = hangs L y ∨ (hangs (L.filter (fun m => m.id != x)) y = -1 ∧ hangs L y = x) := by
  have hn' : ((L.filter (fun m => m.id != x)).map Nd.id).Nodup := hn.sublist (List.Sublist.map _ List.filter_sublist)
  have hel : ∀ z, z ≠ x → elF Nd.id (L.filter (fun m => m.id != x)) z = elF Nd.id L z := fun z hz => el_ext hn (fun m hm => by
    rw [List.mem_filter]
    exact ⟨And.left, fun q => ⟨q, by simp [hm, hz]⟩⟩)
  have hx : elF Nd.id (L.filter (fun m => m.id != x)) x = none := el_none.2 (fun m hm => by
    have := (List.mem_filter.1 hm).2
    simpa using this)
  cases e : elF Nd.id L y with
  | none => exact Or.inl (by rw [hangs_none e, hangs_none ((hel y hy).trans e)])
  | some n =>
    have k1 := hangs_some e
    have k2 := hangs_some ((hel y hy).trans e)
    rw [k1, k2]
    by_cases p0 : n.par < 0
    · exact Or.inl (by rw [if_pos (Or.inl p0), if_pos (Or.inl p0)])
    · by_cases qpx : n.par = x
      · rw [if_pos (Or.inr (by rw [qpx, hx]; rfl))]
        by_cases p1 : (elF Nd.id L n.par).isNone = true
        · exact Or.inl (by rw [if_pos (Or.inr p1)])
        · exact Or.inr ⟨rfl, by rw [if_neg (fun q => q.elim p0 p1), qpx]⟩
      · rw [hel _ qpx]
        exact Or.inl rfl
theorem wf_cut {L : List Nd} (hn : (L.map Nd.id).Nodup) (hW : WF (treesN L)) (x : Int) : WF (treesN (L.filter (fun m => m.id != x))) := by
  have hn' : ((L.filter (fun m => m.id != x)).map Nd.id).Nodup := hn.sublist (List.Sublist.map _ List.filter_sublist)
  refine ⟨trees_nod hn', ?_⟩
  have hx : elF Nd.id (L.filter (fun m => m.id != x)) x = none := el_none.2 (fun m hm => by
    have := (List.mem_filter.1 hm).2
    simpa using this)
  have key : ∀ (l : List Int) (y : Int), IsA (treesN L) y l → ∃ l', IsA (treesN (L.filter (fun m => m.id != x))) y l' := by
    intro l
    induction l with
    | nil =>
      intro y h
      have h1 : parO (treesN L) y = none := h
      rw [par_trees hn] at h1
      refine ⟨[], ?_⟩
      show parO _ _ = none
      rw [par_trees hn']
      by_cases c : y = x
      · rw [if_neg (by rw [c, hangs_none hx]; omega)]
      · rcases hangs_cut hn c with q | q
        · rw [q]; exact h1
        · rw [if_neg (by rw [q.1]; omega)]
    | cons z l ih =>
      intro y h
      have h1 := h.1
      rw [par_trees hn] at h1
      by_cases c : y = x
      · exact ⟨[], by show parO _ _ = none; rw [par_trees hn', if_neg (by rw [c, hangs_none hx]; omega)]⟩
      · rcases hangs_cut hn c with q | q
        · obtain ⟨l', h2⟩ := ih z h.2
          exact ⟨z :: l', by rw [par_trees hn', q]; exact h1, h2⟩
        · exact ⟨[], by show parO _ _ = none; rw [par_trees hn', if_neg (by rw [q.1]; omega)]⟩
  intro y
  exact key _ y (hW.isA y)
theorem DOk.drop {D : FD} (h : DOk D) (x : Int) : DOk (dropFD D x) := by
  unfold dropFD
  by_cases c : dropFB D x = true
  · rw [if_pos c]
    have hn' : ((D.L.filter (fun m => m.id != x)).map Nd.id).Nodup := h.nod.sublist (List.Sublist.map _ List.filter_sublist)
    have hW' := wf_cut h.nod h.wf x
    have hsub : ∀ n ∈ D.L.filter (fun m => m.id != x), n ∈ D.L := fun n hn => (List.mem_filter.1 hn).1
    refine ⟨hn', hW', fun n hn => h.ok n (hsub n hn), fun n hn => h.nn n (hsub n hn), fun n hn => h.rg n (hsub n hn), st_stay (D := D) (D' := { D with L := D.L.filter (fun m => m.id != x), dirty := D.dirty ++ (D.L.filter (fun n => hangs D.L n.id == x)).map Nd.id }) h hn' hW' rfl rfl (fun z hz => List.mem_append_left _ hz) (fun y _ hs => ?_) (fun y hy hs _ => ?_)⟩
    · obtain ⟨n, hn, e⟩ := el_isSome.1 hs
      have hne : y ≠ x := by
        have := (List.mem_filter.1 hn).2
        rw [← e]
        simpa using this
      exact el_ext h.nod (fun m hm => by
        rw [List.mem_filter]
        exact ⟨And.left, fun q => ⟨q, by simp [hm, hne]⟩⟩)
    · obtain ⟨n, hn, e⟩ := el_isSome.1 hs
      have hne : y ≠ x := by
        have := (List.mem_filter.1 hn).2
        rw [← e]
        simpa using this
      rcases hangs_cut h.nod hne with q | q
      · exact q
      · exact absurd (List.mem_append_right _ (List.mem_map.2 ⟨n, List.mem_filter.2 ⟨hsub n hn, by simp [e, q.2]⟩, e⟩)) hy
  · rw [if_neg c]; exact h
theorem DOk.run {D : FD} (h : DOk D) : DOk (runD D) := by
  refine ⟨h.nod, h.wf, h.ok, h.nn, h.rg, fun hb x hx _ => ?_⟩
  have hb' : runE D = 0 := of_decide_eq_true hb
  have hz := all_zero h.nod h.wf h.nn hb'
  obtain ⟨s, hs⟩ := fate_all h.nod h.wf hz (x := x) hx
  refine ⟨s, hs, ?_⟩
  show elF Stt.id (if runE D = 0 then (allN D.L).out else []) x = some s
  rw [if_pos hb', all_find h.nod h.wf h.nn, hs]
def dropS (D : FD) (xs : List Int) : FD := xs.foldl dropFD D
def dropN : FD → List Int → Nat
  | _, [] => 0
  | D, x :: xs => (if dropFB D x then 1 else 0) + dropN (dropFD D x) xs
theorem DOk.drops : ∀ (xs : List Int) {D : FD}, DOk D → DOk (dropS D xs)
  | [], _, h => h
  | x :: xs, _, h => DOk.drops xs (h.drop x)
theorem dropS_snoc {D : FD} {xs : List Int} {k : Nat} {x : Int} (h : xs[k]? = some x) : dropS D (xs.take (k + 1)) = dropFD (dropS D (xs.take k)) x := by
  unfold dropS
  rw [List.take_add_one, h, List.foldl_append]
  rfl
theorem dropN_snoc : ∀ {xs : List Int} {D : FD} {k : Nat} {x : Int}, xs[k]? = some x → dropN D (xs.take (k + 1)) = dropN D (xs.take k) + (if dropFB (dropS D (xs.take k)) x then 1 else 0)
  | [], _, _, _, h => by simp at h
  | a :: xs, D, 0, x, h => by
    simp at h
    subst h
    show (if dropFB D a then 1 else 0) + 0 = 0 + _
    rw [Nat.add_zero, Nat.zero_add]
    rfl
  | a :: xs, D, k + 1, x, h => by
    have ih := dropN_snoc (xs := xs) (D := dropFD D a) (k := k) (x := x) (by simpa using h)
    rw [List.take_succ_cons, List.take_succ_cons]
    show _ + dropN (dropFD D a) (xs.take (k + 1)) = _ + dropN (dropFD D a) (xs.take k) + _
    rw [ih, Nat.add_assoc]
    rfl
theorem dropN_le : ∀ (xs : List Int) (D : FD), dropN D xs ≤ xs.length
  | [], _ => Nat.le_refl _
  | x :: xs, D => by
    have := dropN_le xs (dropFD D x)
    show (if dropFB D x then 1 else 0) + dropN (dropFD D x) xs ≤ xs.length + 1
    split <;> omega
theorem drop_size (D : FD) (x : Int) : (dropFD D x).L.length ≤ D.L.length ∧ (dropFD D x).dirty.length ≤ D.dirty.length + D.L.length ∧ (dropFD D x).steps = D.steps := by
  unfold dropFD
  by_cases c : dropFB D x = true
  · rw [if_pos c]
    refine ⟨List.length_filter_le _ _, ?_, rfl⟩
    show (D.dirty ++ _).length ≤ _
    rw [List.length_append, List.length_map]
    have := List.length_filter_le (fun n => hangs D.L n.id == x) D.L
    omega
  · rw [if_neg c]; exact ⟨by omega, by omega, rfl⟩
theorem drops_size : ∀ (xs : List Int) (D : FD) (m : Nat), D.L.length ≤ m → (dropS D xs).L.length ≤ D.L.length ∧ (dropS D xs).dirty.length ≤ D.dirty.length + xs.length * m ∧ (dropS D xs).steps = D.steps
  | [], D, m, h => ⟨Nat.le_refl _, by simp [dropS], rfl⟩
  | x :: xs, D, m, h => by
    obtain ⟨a1, a2, a3⟩ := drop_size D x
    obtain ⟨b1, b2, b3⟩ := drops_size xs (dropFD D x) m (by omega)
    refine ⟨Nat.le_trans b1 a1, ?_, b3.trans a3⟩
    show (dropS (dropFD D x) xs).dirty.length ≤ _
    rw [List.length_cons, Nat.add_mul]
    omega
structure Bd10 (a m : Nat) (D : FD) : Prop where
  l : D.L.length ≤ m
  d : D.dirty.length ≤ 200 * m
  s : D.steps ≤ 200 * a
theorem ringI_neg {L : List Nd} {y : Int} (h : y < 0) : ∀ k, ringI L k y = y
  | 0 => rfl
  | k + 1 => by
    show (if 0 ≤ y then _ else y) = y
    rw [if_neg (by omega)]
theorem no_ring10 {L : List Nd} (hn : (L.map Nd.id).Nodup) (hW : WF (treesN L)) (x : Int) : ringB L x = false := by
  have key : ∀ (l : List Int) (y : Int) (k : Nat), IsA (treesN L) y l → l.length < k → ringI L k y < 0 ∨ (y < 0 ∧ ringI L k y = y) := by
    intro l
    induction l with
    | nil =>
      intro y k h hk
      by_cases c : y < 0
      · exact Or.inr ⟨c, ringI_neg c k⟩
      · obtain ⟨k', rfl⟩ : ∃ k', k = k' + 1 := ⟨k - 1, by simp at hk; omega⟩
        have h1 : parO (treesN L) y = none := h
        rw [par_trees hn] at h1
        have h2 : hangs L y < 0 := by
          by_cases d : 0 ≤ hangs L y
          · rw [if_pos d] at h1; cases h1
          · omega
        refine Or.inl ?_
        show (if 0 ≤ y then ringI L k' (hangs L y) else y) < 0
        rw [if_pos (by omega), ringI_neg h2]
        exact h2
    | cons z l ih =>
      intro y k h hk
      by_cases c : y < 0
      · exact Or.inr ⟨c, ringI_neg c k⟩
      · obtain ⟨k', rfl⟩ : ∃ k', k = k' + 1 := ⟨k - 1, by simp at hk; omega⟩
        have h1 := h.1
        rw [par_trees hn] at h1
        by_cases d : 0 ≤ hangs L y
        · rw [if_pos d] at h1
          injection h1 with h1
          refine Or.inl ?_
          show (if 0 ≤ y then ringI L k' (hangs L y) else y) < 0
          rw [if_pos (by omega), h1]
          rcases ih z k' h.2 (by simp at hk; omega) with q | q
          · exact q
          · rw [q.2]; exact q.1
        · rw [if_neg d] at h1; cases h1
  unfold ringB
  have h1 := abv_len hW (hangs L x)
  have h2 := trees_len L
  have := key _ (hangs L x) (L.length + 1) (hW.isA _) (by omega)
  exact decide_eq_false (by omega)
end Go.Proofs.YthhfcedhbfandaaGreat
