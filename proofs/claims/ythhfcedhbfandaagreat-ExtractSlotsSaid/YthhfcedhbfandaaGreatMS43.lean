/-
  4 texts in one file, each with its own heading.
-/
import Derived.Test.YthhfcedhbfandaaGreatMS42
/-
  The landed flow as plain data, held against the document's: raw parents and hanging; who is touched; what remaking makes.
-/
namespace Go.Proofs.YthhfcedhbfandaaGreat
open Go.RowKit

def rawT (L : List Nd) : FT := L.filterMap (fun n => if 0 ≤ n.par then some (n.id, n.par) else none)
theorem mem_raw {L : List Nd} {x y : Int} : (x, y) ∈ rawT L ↔ ∃ n ∈ L, n.id = x ∧ 0 ≤ n.par ∧ n.par = y := by
  unfold rawT
  rw [List.mem_filterMap]
  constructor
  · rintro ⟨n, hn, h⟩
    by_cases c : 0 ≤ n.par
    · rw [if_pos c] at h
      injection h with h
      injection h with h1 h2
      exact ⟨n, hn, h1, c, h2⟩
    · rw [if_neg c] at h; cases h
  · rintro ⟨n, hn, e1, c, e2⟩
    exact ⟨n, hn, by rw [if_pos c, e1, e2]⟩
theorem raw_nod {L : List Nd} (h : (L.map Nd.id).Nodup) : ((rawT L).map Prod.fst).Nodup := by
  have key : ∀ M : List Nd, (rawT M).map Prod.fst = (M.filter (fun n => decide (0 ≤ n.par))).map Nd.id := by
    intro M
    unfold rawT
    induction M with
    | nil => rfl
    | cons m M ih =>
      by_cases c : 0 ≤ m.par
      · rw [List.filterMap_cons_some (b := (m.id, m.par)) (by rw [if_pos c]), List.filter_cons_of_pos (by simpa using c), List.map_cons, List.map_cons, ih]
      · rw [List.filterMap_cons_none (by rw [if_neg c]), List.filter_cons_of_neg (by simpa using c), ih]
  rw [key]
  exact h.sublist (List.Sublist.map _ List.filter_sublist)
theorem raw_some {L : List Nd} (h : (L.map Nd.id).Nodup) {x : Int} {n : Nd} (e : elF Nd.id L x = some n) : parO (rawT L) x = if 0 ≤ n.par then some n.par else none := by
  by_cases c : 0 ≤ n.par
  · rw [if_pos c]
    exact par_of_mem (raw_nod h) (mem_raw.2 ⟨n, (el_some e).2, (el_some e).1, c, rfl⟩)
  · rw [if_neg c]
    cases hp : parO (rawT L) x with
    | none => rfl
    | some y =>
      obtain ⟨m, hm, e1, c1, _⟩ := mem_raw.1 (par_mem hp)
      have := el_of_mem h hm
      rw [e1, e] at this
      injection this with this
      rw [this] at c
      exact absurd c1 c
theorem raw_none {L : List Nd} {x : Int} (e : elF Nd.id L x = none) : parO (rawT L) x = none := by
  cases hp : parO (rawT L) x with
  | none => rfl
  | some y =>
    obtain ⟨m, hm, e1, _⟩ := mem_raw.1 (par_mem hp)
    exact absurd e1 (el_none.1 e m hm)
theorem raw_hangs {L : List Nd} (h : (L.map Nd.id).Nodup) (x : Int) : parO (treesN L) x = match parO (rawT L) x with
    | none => none
    | some y => if (elF Nd.id L y).isSome = true then some y else none := by
  rw [par_trees h]
  cases e : elF Nd.id L x with
  | none => rw [raw_none e, hangs_none e, if_neg (by omega)]
  | some n =>
    rw [raw_some h e, hangs_some e]
    by_cases c : 0 ≤ n.par
    · rw [if_pos c]
      show _ = if (elF Nd.id L n.par).isSome = true then some n.par else none
      by_cases d : (elF Nd.id L n.par).isSome = true
      · have hh : (if n.par < 0 ∨ (elF Nd.id L n.par).isNone = true then (-1 : Int) else n.par) = n.par := if_neg (fun q => q.elim (fun q => by omega) (fun q => none_iff.1 q d))
        rw [hh, if_pos d, if_pos c]
      · have hh : (if n.par < 0 ∨ (elF Nd.id L n.par).isNone = true then (-1 : Int) else n.par) = -1 := if_pos (Or.inr (none_iff.2 d))
        rw [hh, if_neg d, if_neg (by omega)]
    · rw [if_neg c, if_pos (Or.inl (by omega)), if_neg (by omega)]
theorem raw_wf {L : List Nd} (h : (L.map Nd.id).Nodup) (hW : WF (treesN L)) : WF (rawT L) := by
  refine ⟨raw_nod h, ?_⟩
  have key : ∀ (l : List Int) (x : Int), IsA (treesN L) x l → ∃ l', IsA (rawT L) x l' := by
    intro l
    induction l with
    | nil =>
      intro x hx
      have h1 : parO (treesN L) x = none := hx
      rw [raw_hangs h] at h1
      cases hp : parO (rawT L) x with
      | none => exact ⟨[], hp⟩
      | some y =>
        rw [hp] at h1
        simp only at h1
        by_cases d : (elF Nd.id L y).isSome = true
        · rw [if_pos d] at h1; cases h1
        · refine ⟨[y], hp, ?_⟩
          show parO (rawT L) y = none
          refine raw_none ?_
          cases q : elF Nd.id L y with
          | none => rfl
          | some n => rw [q] at d; exact absurd rfl d
    | cons y l ih =>
      intro x hx
      have h1 := hx.1
      rw [raw_hangs h] at h1
      obtain ⟨l', hl⟩ := ih y hx.2
      cases hp : parO (rawT L) x with
      | none => rw [hp] at h1; cases h1
      | some z =>
        rw [hp] at h1
        simp only at h1
        by_cases d : (elF Nd.id L z).isSome = true
        · rw [if_pos d] at h1
          injection h1 with h1
          exact ⟨y :: l', by rw [hp, h1], hl⟩
        · rw [if_neg d] at h1; cases h1
  exact fun x => key _ x (hW.isA x)
theorem wf_raw {L : List Nd} (h : (L.map Nd.id).Nodup) (hW : WF (rawT L)) : WF (treesN L) := by
  refine ⟨trees_nod h, ?_⟩
  have key : ∀ (l : List Int) (x : Int), IsA (rawT L) x l → ∃ l', IsA (treesN L) x l' := by
    intro l
    induction l with
    | nil =>
      intro x hx
      have h1 : parO (rawT L) x = none := hx
      exact ⟨[], by show parO (treesN L) x = none; rw [raw_hangs h, h1]⟩
    | cons y l ih =>
      intro x hx
      obtain ⟨l', hl⟩ := ih y hx.2
      by_cases d : (elF Nd.id L y).isSome = true
      · exact ⟨y :: l', by rw [raw_hangs h, hx.1]; simp only; rw [if_pos d], hl⟩
      · exact ⟨[], by show parO (treesN L) x = none; rw [raw_hangs h, hx.1]; simp only; rw [if_neg d]⟩
  exact fun x => key _ x (hW.isA x)
theorem isa_eq {T U : FT} (h : ∀ x, parO T x = parO U x) : ∀ {l : List Int} {x : Int}, IsA T x l → IsA U x l
  | [], x, hx => by show parO U x = none; rw [← h]; exact hx
  | y :: l, x, hx => ⟨by rw [← h]; exact hx.1, isa_eq h hx.2⟩
theorem wf_eq {T U : FT} (hU : (U.map Prod.fst).Nodup) (h : ∀ x, parO T x = parO U x) (hT : WF T) : WF U := ⟨hU, fun x => ⟨_, isa_eq h (hT.isA x)⟩⟩
theorem abv_eq {T U : FT} (hT : WF T) (hU : WF U) (h : ∀ x, parO T x = parO U x) (x : Int) : abv T x = abv U x := (hU.isA x).uniq (isa_eq h (hT.isA x)) |>.symm
theorem key_par {T : FT} (hn : (T.map Prod.fst).Nodup) {x : Int} (h : x ∈ T.map Prod.fst) : ∃ y, parO T x = some y := by
  obtain ⟨⟨a, b⟩, hp, e⟩ := List.mem_map.1 h
  have e : a = x := e
  exact ⟨b, par_of_mem hn (e ▸ hp)⟩
theorem len_key {T : FT} (hn : (T.map Prod.fst).Nodup) {K : List Int} (h : ∀ x, (parO T x).isSome = true → x ∈ K) : T.length ≤ K.length := by
  have := pigeon (m := K) hn (fun z hz => by
    obtain ⟨y, e⟩ := key_par hn hz
    exact h z (by rw [e]; rfl))
  rwa [List.length_map] at this
def stv (L : List Nd) (x : Int) : Option RD := (fate L x).1.map (fun s => (s, (abv (treesN L) x).length + 1))
structure LIf (D : FD) (p : Wp) : Prop where
  wf : WF p.T
  par : ∀ x, parO p.T x = parO (rawT D.L) x
  nod : ∀ x, p.N x = (elF Nd.id D.L x).map (fun n => (n.pl, n.hid))
  mrk : ∀ x, (p.M x).isSome = true ↔ (elF Nd.id D.L x).isSome = true ∧ (D.begun = true → x ∈ D.dirty)
  non : ∀ x, elF Nd.id D.L x = none → p.S x = none
  sts : D.begun = true → ∀ x, (elF Nd.id D.L x).isSome = true → x ∉ touchN D → p.S x = stv D.L x
  st : p.st = D.steps
section
variable {D : FD} {p : Wp}
theorem LIf.nodS (h : LIf D p) (x : Int) : (p.N x).isSome = (elF Nd.id D.L x).isSome := by rw [h.nod]; cases elF Nd.id D.L x <;> rfl
theorem LIf.len (h : LIf D p) : p.T.length ≤ D.L.length := by
  have := len_key h.wf.1 (K := D.L.map Nd.id) (fun x hx => by
    rw [h.par] at hx
    rw [← el_id]
    cases e : elF Nd.id D.L x with
    | some n => rfl
    | none => rw [raw_none e] at hx; cases hx)
  rwa [List.length_map] at this
theorem LIf.mark_dirty (h : LIf D p) (x : Int) : (p.M x).isSome = true ↔ x ∈ dirtyN D := by
  rw [h.mrk]
  by_cases hb : D.begun = true
  · rw [mem_dirty hb]
    exact ⟨fun q => ⟨q.2 hb, q.1⟩, fun q => ⟨q.2, fun _ => q.1⟩⟩
  · unfold dirtyN
    rw [if_neg hb, mem_names]
    exact ⟨fun q => q.1, fun q => ⟨q, fun c => absurd c hb⟩⟩
theorem LIf.abvs (hD : DOk D) (h : LIf D p) {x y : Int} (hy : (elF Nd.id D.L y).isSome = true) : y ∈ abv p.T x ↔ y ∈ abv (treesN D.L) x := by
  have hR := raw_wf hD.nod hD.wf
  rw [abv_eq h.wf hR h.par]
  have k1 : ∀ (l : List Int) (x : Int), IsA (rawT D.L) x l → y ∈ l → y ∈ abv (treesN D.L) x := by
    intro l
    induction l with
    | nil => intro x _ q; cases q
    | cons z l ih =>
      intro x hx q
      have hz : (elF Nd.id D.L z).isSome = true := by
        rcases List.mem_cons.1 q with rfl | q
        · exact hy
        · cases l with
          | nil => cases q
          | cons a l =>
            cases e : elF Nd.id D.L z with
            | some n => rfl
            | none => have := hx.2.1; rw [raw_none e] at this; cases this
      have hp : parO (treesN D.L) x = some z := by rw [raw_hangs hD.nod, hx.1]; simp only; rw [if_pos hz]
      rw [abv_some hD.wf hp]
      rcases List.mem_cons.1 q with rfl | q
      · exact List.mem_cons_self
      · exact List.mem_cons_of_mem _ (ih z hx.2 q)
  have k2 : ∀ (l : List Int) (x : Int), IsA (treesN D.L) x l → y ∈ l → y ∈ abv (rawT D.L) x := by
    intro l
    induction l with
    | nil => intro x _ q; cases q
    | cons z l ih =>
      intro x hx q
      have hp : parO (rawT D.L) x = some z := by
        have h1 := hx.1
        rw [raw_hangs hD.nod] at h1
        cases e : parO (rawT D.L) x with
        | none => rw [e] at h1; cases h1
        | some a =>
          rw [e] at h1
          simp only at h1
          by_cases d : (elF Nd.id D.L a).isSome = true
          · rw [if_pos d] at h1; exact h1
          · rw [if_neg d] at h1; cases h1
      rw [abv_some hR hp]
      rcases List.mem_cons.1 q with rfl | q
      · exact List.mem_cons_self
      · exact List.mem_cons_of_mem _ (ih z hx.2 q)
  exact ⟨k1 _ x (hR.isA x), k2 _ x (hD.wf.isA x)⟩
theorem LIf.chd (hD : DOk D) (h : LIf D p) {x : Int} (hx : (elF Nd.id D.L x).isSome = true) : chF p.T x = chF (treesN D.L) x := by
  refine up_ext (chF_up h.wf.1 x) (chF_up hD.wf.1 x) (fun z => ?_)
  rw [mem_chF h.wf.1, mem_chF hD.wf.1, h.par, raw_hangs hD.nod]
  cases e : parO (rawT D.L) z with
  | none => simp
  | some y =>
    simp only
    by_cases d : (elF Nd.id D.L y).isSome = true
    · rw [if_pos d]
    · rw [if_neg d]
      constructor
      · intro q
        injection q with q
        rw [q] at d
        exact absurd hx d
      · intro q; cases q
theorem LIf.touch (hD : DOk D) (h : LIf D p) {K : List Int} (hK : ∀ z, z ∈ K ↔ (p.M z).isSome = true) : undL p.T K = touchN D := by
  have h1 : undL p.T K = undL (treesN D.L) K := und_same h.wf hD.wf (N := fun x => (elF Nd.id D.L x).isSome = true) (fun x hx => ((h.mrk x).1 ((hK x).1 hx)).1) (fun x hx => h.chd hD hx) (fun x hx c hc => by
    rw [h.chd hD hx] at hc
    have := mem_trees.1 (par_mem ((mem_chF hD.wf.1).1 hc))
    obtain ⟨n, hn, e⟩ := this.1
    exact el_isSome.2 ⟨n, hn, e⟩) (fun x y _ hy => h.abvs hD hy)
  rw [h1]
  unfold touchN
  exact und_set (fun z => by rw [hK, h.mark_dirty])
def dirB (T : FT) (M : Int → Option Unit) (x : Int) : Bool := (M x).isSome || (abv T x).any (fun y => (M y).isSome)
theorem dir_none {T : FT} {M : Int → Option Unit} (h : WF T) {x : Int} (hp : parO T x = none) : dirB T M x = (M x).isSome := by
  unfold dirB
  rw [abv_none h hp]
  simp
theorem dir_some {T : FT} {M : Int → Option Unit} (h : WF T) {x y : Int} (hp : parO T x = some y) : dirB T M x = ((M x).isSome || dirB T M y) := by
  unfold dirB
  rw [abv_some h hp]
  rfl
theorem LIf.dirty (hD : DOk D) (h : LIf D p) (x : Int) : dirB p.T p.M x = decide (x ∈ touchN D) := by
  rw [Bool.eq_iff_iff, decide_eq_true_eq, mem_touch hD.wf]
  unfold dirB
  rw [Bool.or_eq_true, List.any_eq_true]
  constructor
  · rintro (q | ⟨y, hy, q⟩)
    · exact ⟨x, (h.mark_dirty x).1 q, Or.inl rfl⟩
    · exact ⟨y, (h.mark_dirty y).1 q, Or.inr ((h.abvs hD ((h.mrk y).1 q).1).1 hy)⟩
  · rintro ⟨y, hy, rfl | q⟩
    · exact Or.inl ((h.mark_dirty x).2 hy)
    · have hm := (h.mark_dirty y).2 hy
      exact Or.inr ⟨y, (h.abvs hD ((h.mrk y).1 hm).1).2 q, hm⟩
end
def remS (L : List Nd) (O : List Int) (S : Int → Option RD) (j : Nat) (x : Int) : Option RD := if x ∈ O then (if x ∈ O.take j then stv L x else none) else S x
theorem remS_zero (L : List Nd) (O : List Int) (S : Int → Option RD) : mkS S O = remS L O S 0 := by
  funext x
  unfold mkS remS
  simp
def LeastR (L : List Nd) (P : List Int) (least e : Int) : Prop := (e = 0 ∧ ∀ x ∈ P, (fate L x).2 = 0) ∨ (least ∈ P ∧ (fate L least).2 = e ∧ e ≠ 0 ∧ ∀ x ∈ P, (fate L x).2 ≠ 0 → least ≤ x)
theorem leastR_ok {L : List Nd} {P : List Int} {x least e : Int} (h : LeastR L P least e) (hx : (fate L x).2 = 0) : LeastR L (P ++ [x]) least e := by
  rcases h with ⟨h2, h3⟩ | ⟨h1, h2, h3, h4⟩
  · refine Or.inl ⟨h2, fun z hz => ?_⟩
    rcases List.mem_append.1 hz with q | q
    · exact h3 z q
    · rw [List.mem_singleton.1 q]; exact hx
  · refine Or.inr ⟨List.mem_append_left _ h1, h2, h3, fun z hz hf => ?_⟩
    rcases List.mem_append.1 hz with q | q
    · exact h4 z q hf
    · rw [List.mem_singleton.1 q] at hf; exact absurd hx hf
theorem leastR_new {L : List Nd} {P : List Int} {x least e e' : Int} (h : LeastR L P least e) (hx : (fate L x).2 = e') (he : e' ≠ 0) (hc : e = 0 ∨ x < least) : LeastR L (P ++ [x]) x e' := by
  refine Or.inr ⟨List.mem_append_right _ (List.mem_singleton.2 rfl), hx, he, fun z hz hf => ?_⟩
  rcases List.mem_append.1 hz with q | q
  · rcases h with ⟨h2, h3⟩ | ⟨h1, h2, h3, h4⟩
    · exact absurd (h3 z q) hf
    · have := h4 z q hf
      rcases hc with c | c
      · exact absurd c h3
      · omega
  · rw [List.mem_singleton.1 q]; exact Int.le_refl _
theorem leastR_old {L : List Nd} {P : List Int} {x least e : Int} (h : LeastR L P least e) (he : e ≠ 0) (hc : ¬ x < least) : LeastR L (P ++ [x]) least e := by
  rcases h with ⟨h2, h3⟩ | ⟨h1, h2, h3, h4⟩
  · exact absurd h2 he
  · refine Or.inr ⟨List.mem_append_left _ h1, h2, h3, fun z hz hf => ?_⟩
    rcases List.mem_append.1 hz with q | q
    · exact h4 z q hf
    · rw [List.mem_singleton.1 q]; omega
section
variable {D : FD} {p : Wp}
theorem DOk.still (hD : DOk D) {x : Int} (hx : x ∉ touchN D) : (fate D.L x).2 = 0 := by
  cases e : elF Nd.id D.L x with
  | none => rw [fate_no e]
  | some n =>
    by_cases hb : D.begun = true
    · obtain ⟨s, hs, _⟩ := hD.st hb x (by rw [e]; rfl) hx
      rw [hs]
    · refine absurd ((mem_touch hD.wf).2 ⟨x, ?_, Or.inl rfl⟩) hx
      unfold dirtyN
      rw [if_neg hb, mem_names, e]
      rfl
theorem least_run (hD : DOk D) {least e : Int} (h : LeastR D.L (touchN D) least e) : e = runE D := by
  have ha := all_least hD.nod hD.wf hD.nn
  have hin : ∀ x, (fate D.L x).2 ≠ 0 → x ∈ touchN D ∧ x ∈ orderN D.L := fun x hx => by
    refine ⟨?_, ?_⟩
    · by_cases c : x ∈ touchN D
      · exact c
      · exact absurd (hD.still c) hx
    · rw [order_mem hD.wf]
      cases e : elF Nd.id D.L x with
      | some n => rfl
      | none => rw [fate_no e] at hx; exact absurd rfl hx
  show e = (allN D.L).e
  rcases h with ⟨h2, h3⟩ | ⟨h1, h2, h3, h4⟩
  · rcases ha with ⟨_, a2, _⟩ | ⟨a1, a2, a3, _⟩
    · rw [h2, a2]
    · have hf : (fate D.L (allN D.L).least).2 ≠ 0 := by rw [a2]; exact a3
      exact absurd (h3 _ (hin _ hf).1) hf
  · have hf1 : (fate D.L least).2 ≠ 0 := by rw [h2]; exact h3
    rcases ha with ⟨_, a2, a3⟩ | ⟨a1, a2, a3, a4⟩
    · exact absurd (a3 _ (hin _ hf1).2) hf1
    · have hf2 : (fate D.L (allN D.L).least).2 ≠ 0 := by rw [a2]; exact a3
      have k1 := a4 _ (hin _ hf1).2 hf1
      have k2 := h4 _ (hin _ hf2).1 hf2
      have : least = (allN D.L).least := by omega
      rw [← h2, ← a2, this]
theorem fate_ok {L : List Nd} (hok : ∀ n ∈ L, okM n.pl = true) : ∀ {l : List Int} {x : Int} {s : Stt}, (fateL L l x).1 = some s → okM s.wo = true
  | [], x, s, h => by
    unfold fateL at h
    cases e : elF Nd.id L x with
    | none => rw [e] at h; cases h
    | some n =>
      rw [e] at h
      injection h with h
      rw [← h]
      exact hok n (el_some e).2
  | y :: l, x, s, h => by
    unfold fateL at h
    cases e : elF Nd.id L x with
    | none => rw [e] at h; cases h
    | some n =>
      rw [e] at h
      cases q : (fateL L l y).1 with
      | none => simp only [q] at h; cases h
      | some u =>
        simp only [q] at h
        by_cases c : 16 < l.length + 2
        · rw [if_pos c] at h; cases h
        · rw [if_neg c] at h
          by_cases d : prodE2 u.wo n.pl = 0
          · rw [if_pos d] at h
            injection h with h
            rw [← h]
            exact prodM_ok _ _
          · rw [if_neg d] at h; cases h
theorem stv_ok (hD : DOk D) {x : Int} {u : RD} (h : stv D.L x = some u) : okM u.1.wo = true ∧ u.2 = (abv (treesN D.L) x).length + 1 := by
  unfold stv at h
  cases q : (fate D.L x).1 with
  | none => rw [q] at h; cases h
  | some s =>
    rw [q] at h
    injection h with h
    rw [← h]
    exact ⟨fate_ok hD.ok q, rfl⟩
theorem LIf.reach (hD : DOk D) (h : LIf D p) {j : Nat} {x : Int} (hx : (touchN D)[j]? = some x) :
    ∃ nd, p.N x = some nd ∧ okM nd.1 = true ∧ (∀ u, remS D.L (touchN D) p.S j (parM p.T x) = some u → okM u.1.wo = true ∧ u.2 ≤ D.L.length + 1) ∧
      rchV nd (p.N (parM p.T x)).isSome (remS D.L (touchN D) p.S j (parM p.T x)) x = (stv D.L x, (fate D.L x).2) ∧ rchS (remS D.L (touchN D) p.S j) x (stv D.L x) = remS D.L (touchN D) p.S (j + 1) := by
  have hmx := List.mem_of_getElem? hx
  have hnx := touch_node hD.wf hmx
  obtain ⟨n, en⟩ := Option.isSome_iff_exists.1 hnx
  have hid := (el_some en).1
  have hst : ∀ y, (elF Nd.id D.L y).isSome = true → y ∉ touchN D → p.S y = stv D.L y := fun y hy hyt => by
    by_cases hb : D.begun = true
    · exact h.sts hb y hy hyt
    · refine absurd ((mem_touch hD.wf).2 ⟨y, ?_, Or.inl rfl⟩) hyt
      unfold dirtyN
      rw [if_neg hb]
      exact mem_names.2 hy
  have hnon : ∀ y, elF Nd.id D.L y = none → remS D.L (touchN D) p.S j y = none := fun y hy => by
    unfold remS
    rw [if_neg (fun c => by have := touch_node hD.wf c; rw [hy] at this; cases this)]
    exact h.non y hy
  have hlen : ∀ y, (abv (treesN D.L) y).length ≤ D.L.length := fun y => Nat.le_trans (abv_len hD.wf y) (trees_len _)
  have hok2 : ∀ y u, remS D.L (touchN D) p.S j y = some u → okM u.1.wo = true ∧ u.2 ≤ D.L.length + 1 := fun y u hu => by
    have hyn : (elF Nd.id D.L y).isSome = true := by
      cases e : elF Nd.id D.L y with
      | some n => rfl
      | none => rw [hnon y e] at hu; cases hu
    have hs : stv D.L y = some u := by
      unfold remS at hu
      by_cases c : y ∈ touchN D
      · rw [if_pos c] at hu
        by_cases d : y ∈ (touchN D).take j
        · rw [if_pos d] at hu; exact hu
        · rw [if_neg d] at hu; cases hu
      · rw [if_neg c] at hu
        rw [← hst y hyn c]
        exact hu
    obtain ⟨k1, k2⟩ := stv_ok hD hs
    have := hlen y
    exact ⟨k1, by omega⟩
  have hnt : x ∉ (touchN D).take j := nod_take (undL_nod hD.wf _) hx
  have hstep : rchS (remS D.L (touchN D) p.S j) x (stv D.L x) = remS D.L (touchN D) p.S (j + 1) := by
    have key : ∀ y, remS D.L (touchN D) p.S (j + 1) y = if y = x then stv D.L x else remS D.L (touchN D) p.S j y := fun y => by
      unfold remS
      rw [List.take_add_one, hx]
      by_cases c : y = x
      · rw [if_pos c, c, if_pos hmx, if_pos (by simp)]
      · rw [if_neg c]
        by_cases d : y ∈ touchN D
        · rw [if_pos d, if_pos d]
          by_cases f : y ∈ (touchN D).take j
          · rw [if_pos f, if_pos (List.mem_append_left _ f)]
          · rw [if_neg f, if_neg (fun k => (List.mem_append.1 k).elim f (fun k => c (by simpa using k)))]
        · rw [if_neg d, if_neg d]
    funext y
    rw [key]
    cases q : stv D.L x with
    | none =>
      show remS D.L (touchN D) p.S j y = _
      by_cases c : y = x
      · rw [if_pos c, c]
        unfold remS
        rw [if_pos hmx, if_neg hnt]
      · rw [if_neg c]
    | some v => rfl
  refine ⟨(n.pl, n.hid), by rw [h.nod, en]; rfl, hD.ok n (el_some en).2, fun u hu => hok2 _ u hu, ?_, hstep⟩
  have hpm : parM p.T x = if 0 ≤ n.par then n.par else -1 := by
    unfold parM
    rw [h.par, raw_some hD.nod en]
    by_cases c : 0 ≤ n.par
    · rw [if_pos c, if_pos c]; rfl
    · rw [if_neg c, if_neg c]; rfl
  have hneg : elF Nd.id D.L (-1) = none := el_none.2 (fun m hm e => by have := hD.nn m hm; omega)
  rw [h.nodS]
  by_cases ht : (elF Nd.id D.L (parM p.T x)).isSome = true
  · have c : 0 ≤ n.par := by
      by_cases c : 0 ≤ n.par
      · exact c
      · rw [hpm, if_neg c, hneg] at ht; cases ht
    rw [if_pos c] at hpm
    rw [hpm] at ht ⊢
    have hh : hangs D.L x = n.par := by rw [hangs_some en, if_neg (fun q => q.elim (fun q => by omega) (fun q => none_iff.1 q ht))]
    have hp : parO (treesN D.L) x = some n.par := by rw [par_trees hD.nod, hh, if_pos c]
    have hou : remS D.L (touchN D) p.S j n.par = stv D.L n.par := by
      unfold remS
      have q0 : n.par ∈ (touchN D).take j ∨ n.par ∉ touchN D := und_at hD.wf hx hp
      rcases q0 with q | q
      · rw [if_pos (List.mem_of_mem_take q), if_pos q]
      · rw [if_neg q]
        exact hst _ ht q
    have hf := fate_on hD.nod hD.wf en (by omega)
    rw [hh] at hf
    have hab : (abv (treesN D.L) x).length = (abv (treesN D.L) n.par).length + 1 := by rw [abv_some hD.wf hp, List.length_cons]
    rw [hou, ht]
    unfold rchV
    rw [if_neg (by simp)]
    cases q : (fate D.L n.par).1 with
    | none =>
      rw [q] at hf
      have e1 : stv D.L n.par = none := by unfold stv; rw [q]; rfl
      have e2 : stv D.L x = none := by unfold stv; rw [hf]; rfl
      rw [e1, e2, hf]
    | some s =>
      rw [q] at hf
      simp only at hf
      have e1 : stv D.L n.par = some (s, (abv (treesN D.L) n.par).length + 1) := by unfold stv; rw [q]; rfl
      rw [e1]
      show (if 16 ≤ (abv (treesN D.L) n.par).length + 1 then _ else _) = _
      by_cases d : 16 ≤ (abv (treesN D.L) n.par).length + 1
      · rw [if_pos d]
        rw [if_pos (by omega)] at hf
        have e2 : stv D.L x = none := by unfold stv; rw [hf]; rfl
        rw [e2, hf]
      · rw [if_neg d]
        rw [if_neg (by omega)] at hf
        by_cases z : prodE2 s.wo n.pl = 0
        · rw [if_pos z] at hf ⊢
          have e2 : stv D.L x = some (⟨n.id, prodM s.wo n.pl, s.sh && !n.hid⟩, (abv (treesN D.L) x).length + 1) := by unfold stv; rw [hf]; rfl
          rw [e2, hf, hid, hab]
        · rw [if_neg z] at hf ⊢
          have e2 : stv D.L x = none := by unfold stv; rw [hf]; rfl
          rw [e2, hf]
  · have hh : hangs D.L x < 0 := by
      rw [hangs_some en]
      by_cases c : n.par < 0
      · rw [if_pos (Or.inl c)]; omega
      · rw [hpm, if_pos (by omega)] at ht
        rw [if_pos (Or.inr (none_iff.2 ht))]; omega
    have hf := fate_root hD.nod hD.wf en hh
    have hp : parO (treesN D.L) x = none := by rw [par_trees hD.nod, if_neg (by omega)]
    have e2 : stv D.L x = some (⟨n.id, n.pl, !n.hid⟩, 1) := by unfold stv; rw [hf, abv_none hD.wf hp]; rfl
    have e3 : (elF Nd.id D.L (parM p.T x)).isSome = false := by cases q : (elF Nd.id D.L (parM p.T x)).isSome with | false => rfl | true => exact absurd q ht
    rw [e3, e2, hf]
    unfold rchV
    rw [if_pos rfl, hid]
end
theorem LIf.parR {D : FD} {p : Wp} (hD : DOk D) (h : LIf D p) {x y : Int} (hp : parO p.T x = some y) : Rg y := by
  rw [h.par] at hp
  obtain ⟨n, hn, _, _, e⟩ := mem_raw.1 (par_mem hp)
  rw [← e]
  exact (hD.rg n hn).2
theorem LIf.parMR {D : FD} {p : Wp} (hD : DOk D) (h : LIf D p) (x : Int) : Rg (parM p.T x) := by
  unfold parM
  cases e : parO p.T x with
  | none => exact ⟨by show _ ≤ (-1 : Int); omega, by show (-1 : Int) ≤ _; omega⟩
  | some y => exact h.parR hD e
theorem remS_node {D : FD} {p : Wp} (hD : DOk D) (h : LIf D p) (j : Nat) (y : Int) (hy : (remS D.L (touchN D) p.S j y).isSome = true) : y ∈ D.L.map Nd.id := by
  rw [← el_id]
  cases e : elF Nd.id D.L y with
  | some n => rfl
  | none =>
    unfold remS at hy
    rw [if_neg (fun c => by have := touch_node hD.wf c; rw [e] at this; cases this), h.non y e] at hy
    cases hy
theorem touch_rg {D : FD} (hD : DOk D) : Rgs (touchN D) := fun x hx => by
  obtain ⟨n, hn, e⟩ := el_isSome.1 (touch_node hD.wf hx)
  rw [← e]
  exact (hD.rg n hn).1
section
variable {w : World} {p : Wp} {D : FD}
set_option maxHeartbeats 4000000 in
set_option maxRecDepth 100000 in
theorem lfremake_any (hD : DOk D) (hL : LIf D p) (h : LW w p) (hDl : D.L.length ≤ 900) {a : Option Addr} {n cap : Nat} (row : Row w a n (touchN D)) (ha : Aw (footL p) a n) :
    Calls Tryz.prog 131 #[.pointer (some ⟨p.g, 0, none⟩), .slice a n cap] w fun e w' => e = .returned (.int .i64 (runE D)) ∧ ChL w w' p (wS p (remS D.L (touchN D) p.S n)) := by
  have hn : n ≤ 900 := by have := touch_len hD.wf; have := row.1; omega
  have hbig := row.2.1
  have HLen := Lib.hid row.1
  have HSt : Hid (ChL w w p (wS p (mkS p.S ((touchN D).take 0)))) := Lib.hid (by
    have e : wS p (mkS p.S ((touchN D).take 0)) = p := by
      unfold wS
      rw [List.take_zero, show mkS p.S [] = p.S from by funext x; unfold mkS; rw [if_neg (by simp)]]
    rw [e]
    exact ChL.still h (Below.refl _ _))
  have HRow : Hid (∀ u q, ChL w u p q → Row u a n (touchN D)) := Lib.hid (fun u q k => row_frame row ha k.2.1)
  have HDel : Hid (∀ u j z, (touchN D)[j]? = some z → ChL w u p (wS p (mkS p.S ((touchN D).take j))) → u.cell? ⟨p.g, 2, none⟩ = some (.map (some p.gs)) ∧ p.g < u.heap.size ∧ ∃ w1, (∀ ty, (Builtin.delete_ #[198, 81] ty #[.map (some p.gs), .int .i64 z]).run Tryz.prog u = .ok (.tuple #[]) w1) ∧ ChL w w1 p (wS p (mkS p.S ((touchN D).take (j + 1))))) := Lib.hid (fun u j z hz k => by
    obtain ⟨w1, r1, m1, g1⟩ := k.1.sts.del (touch_rg hD z (List.mem_of_getElem? hz))
    refine ⟨k.1.cells.2.2.1, k.1.cells.2.2.2.2.2, w1, r1, ?_⟩
    rw [mkS_step hz]
    exact k.join (k.1.setS m1 g1))
  have HRe : Hid (∀ u j z, (touchN D)[j]? = some z → ChL w u p (wS p (remS D.L (touchN D) p.S j)) → Calls Tryz.prog 200 #[.pointer (some ⟨p.g, 0, none⟩), .int .i64 z] u fun e w' => e = .returned (.int .i64 (fate D.L z).2) ∧ ChL w w' p (wS p (remS D.L (touchN D) p.S (j + 1)))) := Lib.hid (fun u j z hz k => by
    obtain ⟨nd, h1, h2, h3, h4, h5⟩ := hL.reach hD hz
    have hc := lfreach_any (p := wS p (remS D.L (touchN D) p.S j)) k.1 (touch_rg hD z (List.mem_of_getElem? hz)) nd h1 h2 (hL.parMR hD z) (fun v hv => by have := h3 v hv; exact ⟨this.1, by omega⟩) (D.L.map Nd.id) (remS_node hD hL j) (by rw [List.length_map]; omega)
    refine hc.mono ?_
    rintro e w' ⟨rfl, hch⟩
    have h4' : rchV nd ((wS p (remS D.L (touchN D) p.S j)).N (parM (wS p (remS D.L (touchN D) p.S j)).T z)).isSome ((wS p (remS D.L (touchN D) p.S j)).S (parM (wS p (remS D.L (touchN D) p.S j)).T z)) z = (stv D.L z, (fate D.L z).2) := h4
    rw [h4'] at hch ⊢
    refine ⟨rfl, ?_⟩
    rw [← h5]
    exact k.join hch)
  have HR0 : Hid (mkS p.S (touchN D) = remS D.L (touchN D) p.S 0) := Lib.hid (remS_zero _ _ _)
  have HEnd : Hid (∀ least e, LeastR D.L (touchN D) least e → e = runE D) := Lib.hid (fun least e q => least_run hD q)
  obtain ⟨O, hO⟩ : ∃ O, O = touchN D := ⟨_, rfl⟩
  rw [← hO] at HLen HSt HRow HDel HRe HR0 HEnd ⊢
  obtain ⟨L, hLe⟩ : ∃ L, L = D.L := ⟨_, rfl⟩
  rw [← hLe] at HRe HR0 HEnd ⊢
  obtain ⟨g, hge⟩ : ∃ g, g = p.g := ⟨_, rfl⟩
  rw [← hge] at HDel HRe ⊢
  obtain ⟨gs, hse⟩ : ∃ gs, gs = p.gs := ⟨_, rfl⟩
  rw [← hse] at HDel
  obtain ⟨R, hR⟩ : ∃ R : Nat → Int → Option RD, R = remS L O p.S := ⟨_, rfl⟩
  rw [← hR] at HRe HR0 ⊢
  obtain ⟨RE, hRE⟩ : ∃ RE, RE = runE D := ⟨_, rfl⟩
  rw [← hRE] at HEnd ⊢
  clear hD hL h hDl row ha hO hLe hge hse hR hRE
  go_enter Tryz.func131, Tryz.ntmps131
  go_wp2
  go_loopw [6, 14] (fun _ i wr => ∃ j : Nat, j ≤ n ∧ i = .int .i64 j ∧ ChL w wr p (wS p (mkS p.S (O.take j)))) (fun _ i _ => n - (ivl i).toNat)
  case atStart => exact ⟨0, by omega, rfl, HSt.out⟩
  case round =>
    clear HSt
    obtain ⟨j, hj, rfl, hch⟩ := hrel
    have hrw := HRow.out wr _ hch
    have HCh := Lib.hid hch
    clear hch
    by_cases hlt : j < n
    · obtain ⟨b, off, z, rfl, hz, cz⟩ := row_at hrw hlt
      have hbl := World.block_lt_of_cell? _ _ cz
      obtain ⟨c2, hg, w1, r1, hch2⟩ := HDel.out wr j z hz HCh.out
      have HC2 := Lib.hid hch2
      have j0 : (0 : Int) ≤ (j : Int) := by omega
      have j1 : (j : Int) < (n : Int) := by omega
      clear hrw hz hch2 HCh
      go_wp2_with (at_builtin; refine wpList_del9 rfl (.tmp 21) (.tmp 22) 198 81 rfl _ _ rfl rfl (r1 _) ?_)
      go_roundw
      case rel => exact ⟨j + 1, by omega, by go_num, HC2.out⟩
      case measure => simp [ivl] <;> omega
    · obtain rfl : j = n := by omega
      have e0 : O.take j = O := List.take_of_length_le (by rw [HLen.out]; exact Nat.le_refl _)
      rw [e0, HR0.out] at HCh
      have j1 : ¬ (j : Int) < (j : Int) := by omega
      clear e0 hrw hlt HDel
      go_wp2
      go_loopw [7, 8, 10, 11, 26] (fun v7 v8 _ _ i wx => ∃ (k : Nat) (le fi : Int), k ≤ j ∧ i = .int .i64 k ∧ v7 = .int .i64 le ∧ v8 = .int .i64 fi ∧ LeastR L (O.take k) le fi ∧ ChL w wx p (wS p (R k))) (fun _ _ _ _ i _ => j - (ivl i).toNat)
      case atStart => exact ⟨0, 0, 0, by omega, rfl, rfl, rfl, Or.inl ⟨rfl, fun x hx => by simp at hx⟩, HCh.out⟩
      case round =>
        clear HCh
        obtain ⟨k, le, fi, hk, rfl, rfl, rfl, hle, hch⟩ := hrel
        have hrw := HRow.out wr _ hch
        have HLe := Lib.hid hle
        have HCh := Lib.hid hch
        clear hch hle
        by_cases hlt : k < j
        · obtain ⟨b, off, z, rfl, hz, cz⟩ := row_at hrw hlt
          have hbl := World.block_lt_of_cell? _ _ cz
          have HF := Lib.hid (HRe.out wr k z hz HCh.out)
          have HT : Hid (O.take (k + 1) = O.take k ++ [z]) := Lib.hid (by rw [List.take_add_one, hz]; rfl)
          obtain ⟨E, hE⟩ : ∃ E, E = (fate L z).2 := ⟨_, rfl⟩
          rw [← hE] at HF
          have HE := Lib.hid hE.symm
          have k0 : (0 : Int) ≤ (k : Int) := by omega
          have k1 : (k : Int) < (j : Int) := by omega
          clear hrw hz HCh hE
          go_wp2_with fail
          refine HF.out.mono ?_
          rintro e w2 ⟨rfl, hch⟩
          have HC2 := Lib.hid hch
          clear hch HF
          by_cases hE0 : E = 0
          · subst hE0
            have HL2 : Hid (LeastR L (O.take (k + 1)) le fi) := Lib.hid (by rw [HT.out]; exact leastR_ok HLe.out HE.out)
            go_wp2
            go_roundw
            case rel => exact ⟨k + 1, le, fi, by omega, by go_num, rfl, rfl, HL2.out, HC2.out⟩
            case measure => simp [ivl] <;> omega
          · by_cases hf0 : fi = 0
            · subst hf0
              have HL2 : Hid (LeastR L (O.take (k + 1)) z E) := Lib.hid (by rw [HT.out]; exact leastR_new HLe.out HE.out hE0 (Or.inl rfl))
              go_wp2
              go_roundw
              case rel => exact ⟨k + 1, z, E, by omega, by go_num, rfl, rfl, HL2.out, HC2.out⟩
              case measure => simp [ivl] <;> omega
            · have hfb : (fi == 0) = false := by simpa using hf0
              have hEb : (E != 0) = true := by simpa using hE0
              by_cases hzl : z < le
              · have HL2 : Hid (LeastR L (O.take (k + 1)) z E) := Lib.hid (by rw [HT.out]; exact leastR_new HLe.out HE.out hE0 (Or.inr hzl))
                go_wp2
                go_roundw
                case rel => exact ⟨k + 1, z, E, by omega, by go_num, rfl, rfl, HL2.out, HC2.out⟩
                case measure => simp [ivl] <;> omega
              · have HL2 : Hid (LeastR L (O.take (k + 1)) le fi) := Lib.hid (by rw [HT.out]; exact leastR_old HLe.out hf0 hzl)
                have hzl1 : decide (z < le) = false := decide_eq_false hzl
                have hzl2 : le ≤ z := by omega
                go_wp2
                go_roundw
                case rel => exact ⟨k + 1, le, fi, by omega, by go_num, rfl, rfl, HL2.out, HC2.out⟩
                case measure => simp [ivl] <;> omega
        · obtain rfl : k = j := by omega
          have e0 : O.take k = O := List.take_of_length_le (by rw [HLen.out]; exact Nat.le_refl _)
          rw [e0] at HLe
          have HEq := Lib.hid (HEnd.out le fi HLe.out)
          have k1 : ¬ (k : Int) < (k : Int) := by omega
          clear e0 hrw hlt
          go_wp2
          go_ret
          exact ⟨by rw [HEq.out] <;> rfl, HCh.out⟩
set_option maxHeartbeats 4000000 in
set_option maxRecDepth 100000 in
theorem lfdirty_any (h : LW w p) (hW : WF p.T) (hP : ∀ x y, parO p.T x = some y → Rg y) {x : Int} (hx : Rg x) :
    Calls Tryz.prog 214 #[.pointer (some ⟨p.g, 0, none⟩), .int .i64 x] w fun e w' => e = .returned (.bool (dirB p.T p.M x)) ∧ Below w.heap.size w w' := by
  have HLk : Hid (∀ u z, Below w.heap.size w u → Rg z → (Instr.lookup 199 (.map (some p.gm)) (.int .i64 z) true).run Tryz.prog u = .ok (.tuple #[.agg #[], .bool (p.M z).isSome]) u ∧ u.cell? ⟨p.g, 3, none⟩ = some (.map (some p.gm)) ∧ u.cell? ⟨p.g, 0, none⟩ = some (.pointer (some ⟨p.gf, 0, none⟩)) ∧ p.g < u.heap.size) := Lib.hid (fun u z q hz => ⟨(h.keep q).mrk.look hz, (h.keep q).cells.2.2.2.1, (h.keep q).cells.1, (h.keep q).cells.2.2.2.2.2⟩)
  have HPa : Hid (∀ u z, Below w.heap.size w u → Rg z → u.cell? ⟨p.g, 0, none⟩ = some (.pointer (some ⟨p.gf, 0, none⟩)) ∧ p.g < u.heap.size ∧ Calls Tryz.prog 251 #[.pointer (some ⟨p.gf, 0, none⟩), .int .i64 z] u fun e w' => e = .returned (.tuple #[.int .i64 (parV (parO p.T z)), .bool (parO p.T z).isSome]) ∧ u = w') := Lib.hid (fun u z q hz => ⟨(h.keep q).cells.1, (h.keep q).cells.2.2.2.2.2, by
    obtain ⟨gp, gc, bl, cp, h1, _⟩ := (h.keep q).fo
    exact lparent_any h1 hz⟩)
  have HN : Hid (∀ z, parO p.T z = none → dirB p.T p.M z = (p.M z).isSome) := Lib.hid (fun z e => dir_none hW e)
  have HS : Hid (∀ z y, parO p.T z = some y → dirB p.T p.M z = ((p.M z).isSome || dirB p.T p.M y) ∧ Rg y ∧ abM p.T (.int .i64 y) < abM p.T (.int .i64 z)) := Lib.hid (fun z y e => ⟨dir_some hW e, hP z y e, by
    unfold abM
    show (abv p.T y).length + 1 < (abv p.T z).length + 1
    rw [abv_some hW e, List.length_cons]
    omega⟩)
  have HI : Hid (∀ z, (p.M z).isSome = true → dirB p.T p.M z = true) := Lib.hid (fun z e => by unfold dirB; rw [e]; rfl)
  obtain ⟨g, hge⟩ : ∃ g, g = p.g := ⟨_, rfl⟩
  obtain ⟨gf, hfe⟩ : ∃ gf, gf = p.gf := ⟨_, rfl⟩
  obtain ⟨gm, hme⟩ : ∃ gm, gm = p.gm := ⟨_, rfl⟩
  obtain ⟨T, hT⟩ : ∃ T, T = p.T := ⟨_, rfl⟩
  obtain ⟨M, hM⟩ : ∃ M, M = p.M := ⟨_, rfl⟩
  rw [← hge] at HLk HPa ⊢
  rw [← hfe] at HPa HLk
  rw [← hme] at HLk
  rw [← hT] at HPa HN HS HI ⊢
  rw [← hM] at HLk HN HS HI ⊢
  have HX := Lib.hid hx
  clear h hW hP hge hfe hme hT hM hx
  go_enter Tryz.func214, Tryz.ntmps214
  go_wp2
  go_loopw [1, 5, 6, 7] (fun v1 v5 _ _ wr => ∃ (z : Int) (b : Bool), v1 = .int .i64 z ∧ v5 = .bool b ∧ (b = true → dirB T M x = dirB T M z ∧ Rg z) ∧ (b = false → dirB T M x = false) ∧ Below w.heap.size w wr) (fun v1 v5 _ _ _ => match v5 with | .bool true => abM T v1 | _ => 0)
  case atStart => exact ⟨x, true, rfl, rfl, fun _ => ⟨rfl, HX.out⟩, fun c => (by cases c), Below.refl _ _⟩
  case round =>
    obtain ⟨z, b, rfl, rfl, h1, h2, hb⟩ := hrel
    have HB := Lib.hid hb
    clear hb
    cases b with
    | false =>
      have HR := Lib.hid (h2 rfl)
      clear h1 h2
      go_wp2
      go_ret
      exact ⟨by rw [HR.out] <;> rfl, HB.out⟩
    | true =>
      obtain ⟨he, hzr⟩ := h1 rfl
      have HE := Lib.hid he
      have HZ := Lib.hid hzr
      obtain ⟨hl, c3, c0, hg⟩ := HLk.out _ z HB.out hzr
      have HI2 := Lib.hid (HI.out z)
      obtain ⟨m, hm⟩ : ∃ m, m = (M z).isSome := ⟨_, rfl⟩
      rw [← hm] at hl HI2
      have HM := Lib.hid hm
      clear h1 h2 he hzr hm
      have hal : Below wr.heap.size wr (wr.alloc (.cells #[] 220)) := alloc_below _ _
      have HB2 := Lib.hid (bthen HB.out hal)
      clear hal
      go_upto_region 5 with fail
      refine fin (fun W => Below w.heap.size w W) HB2.out ?_
      rintro W hbW
      have HBW := Lib.hid hbW
      clear hbW hl c3 c0 hg HB2 HB
      cases m with
      | true =>
        have HR := Lib.hid (HE.out.trans (HI2.out rfl))
        go_wp2
        go_ret
        exact ⟨by rw [HR.out] <;> rfl, HBW.out⟩
      | false =>
        obtain ⟨c0, hg, hp⟩ := HPa.out W z HBW.out HZ.out
        have HP := Lib.hid hp
        clear hp
        cases hpz : parO T z with
        | none =>
          have HR := Lib.hid (HE.out.trans ((HN.out z hpz).trans HM.out.symm))
          rw [hpz] at HP
          clear hpz
          go_wp2_with fail
          refine HP.out.mono ?_
          rintro e w1 ⟨rfl, rfl⟩
          go_wp2
          go_roundw
          case rel => exact ⟨0, false, rfl, rfl, fun c => (by cases c), fun _ => HR.out, HBW.out⟩
          case measure => exact Nat.succ_pos _
        | some y =>
          obtain ⟨k1, k2, k3⟩ := HS.out z y hpz
          rw [← HM.out, Bool.false_or] at k1
          have HR := Lib.hid (HE.out.trans k1)
          have HY := Lib.hid k2
          have HMs := Lib.hid k3
          rw [hpz] at HP
          clear hpz k1 k2 k3
          go_wp2_with fail
          refine HP.out.mono ?_
          rintro e w1 ⟨rfl, rfl⟩
          go_wp2
          go_roundw
          case rel => exact ⟨y, true, rfl, rfl, fun _ => ⟨HR.out, HY.out⟩, fun c => (by cases c), HBW.out⟩
          case measure => exact HMs.out
def stL (p : Wp) (x : Int) : RD × Bool := if dirB p.T p.M x = true then (zRf, false) else ((p.S x).getD zRf, (p.S x).isSome)
theorem cFs_eq (s : Stt) : cFs s = lM s.wo ++ [.bool s.sh] := rfl
theorem cFs_one (s : Stt) : ∀ u ∈ cFs s, u.oneCell' = true := fun u hu => by
  rw [cFs_eq] at hu
  rcases List.mem_append.1 hu with h | h
  · exact lM_one _ u h
  · rw [List.mem_singleton.1 h]; rfl
structure FX (X : List Value) : Prop where
  len : X.length = 13
  size : (Tryz.prog.info? 228).map (·.size) = some X.length
  sizea : (Tryz.prog.info? 228).map (·.size) = some X.toArray.size
  onea : X.toArray.all (·.oneCell') = true
theorem fx_any (s : Stt) : FX (cFs s) := ⟨rfl, by kernel_rfl, by kernel_rfl, all_oneCell_toArray (cFs_one s)⟩
theorem bfs_zero (W : World) : (Instr.build 228 #[]).run Tryz.prog W = .ok (.agg (cFs zSt).toArray) W := by kernel_rfl
end
section
variable {w : World} {p : Wp}
set_option maxHeartbeats 4000000 in
set_option maxRecDepth 100000 in
theorem lfstate_any (h : LW w p) (hW : WF p.T) (hP : ∀ x y, parO p.T x = some y → Rg y) {x : Int} (hx : Rg x) :
    Calls Tryz.prog 137 #[.pointer (some ⟨p.g, 0, none⟩), .int .i64 x] w fun e w' => ∃ Y, e = .returned (.tuple #[.agg (List.toArray Y), .bool (stL p x).2]) ∧ Y = cFs (stL p x).1.1 ∧ Below w.heap.size w w' := by
  have HDi : Hid (∀ u, Below w.heap.size w u → Calls Tryz.prog 214 #[.pointer (some ⟨p.g, 0, none⟩), .int .i64 x] u fun e w' => e = .returned (.bool (dirB p.T p.M x)) ∧ Below u.heap.size u w') := Lib.hid (fun u q => lfdirty_any (h.keep q) hW hP hx)
  have HLs : Hid (∀ u, Below w.heap.size w u → u.cell? ⟨p.g, 2, none⟩ = some (.map (some p.gs)) ∧ p.g < u.heap.size ∧ (Instr.lookup 198 (.map (some p.gs)) (.int .i64 x) true).run Tryz.prog u = .ok (.tuple #[.agg (cSd ((p.S x).getD zRf)).toArray, .bool (p.S x).isSome]) u) := Lib.hid (fun u q => ⟨(h.keep q).cells.2.2.1, (h.keep q).cells.2.2.2.2.2, (h.keep q).sts.look hx⟩)
  have hst : stL p x = if dirB p.T p.M x = true then (zRf, false) else ((p.S x).getD zRf, (p.S x).isSome) := rfl
  obtain ⟨dt, hdt⟩ : ∃ dt, dt = dirB p.T p.M x := ⟨_, rfl⟩
  obtain ⟨v, hv⟩ : ∃ v, v = (p.S x).getD zRf := ⟨_, rfl⟩
  obtain ⟨os, hos⟩ : ∃ os, os = (p.S x).isSome := ⟨_, rfl⟩
  obtain ⟨g, hge⟩ : ∃ g, g = p.g := ⟨_, rfl⟩
  obtain ⟨gs, hse⟩ : ∃ gs, gs = p.gs := ⟨_, rfl⟩
  rw [← hdt] at HDi hst
  rw [← hv] at HLs hst
  rw [← hos] at HLs hst
  rw [← hge] at HDi HLs ⊢
  rw [← hse] at HLs
  obtain ⟨sl, hsl⟩ : ∃ sl, sl = stL p x := ⟨_, rfl⟩
  rw [← hsl] at hst ⊢
  have HSl := Lib.hid hst
  have KZ := Lib.hid (Blk.new w 228 (cFs zSt).toArray)
  have HB0 : Hid (Below w.heap.size w (w.alloc (.cells (cFs zSt).toArray 228))) := Lib.hid (alloc_below _ _)
  have HZ := Lib.hid (fx_any zSt)
  have HBz := Lib.hid bfs_zero
  have HX := Lib.hid (rx_any v)
  have HF := Lib.hid (fx_any v.1)
  have HRR : Hid (∀ W gg, Blk W gg 299 (cSd v).toArray → W.rangeAt gg 0 (cFs v.1)) := Lib.hid (fun W gg k => blk_range k 0 13)
  obtain ⟨XZ, hXZ⟩ : ∃ XZ, XZ = cFs zSt := ⟨_, rfl⟩
  obtain ⟨XR, hXR⟩ : ∃ XR, XR = cSd v := ⟨_, rfl⟩
  obtain ⟨XF, hXF⟩ : ∃ XF, XF = cFs v.1 := ⟨_, rfl⟩
  rw [← hXR] at HLs HX HRR
  rw [← hXF] at HF HRR
  have HZe := Lib.hid hXZ
  have HFe := Lib.hid hXF
  clear h hW hP hx hdt hv hos hge hse hsl hst hXR hXF
  go_enter Tryz.func137, Tryz.ntmps137
  go_upto_region 1 with fail
  refine fin (fun W => Blk W w.heap.size 228 (cFs zSt).toArray ∧ Below w.heap.size w W) ⟨KZ.out, HB0.out⟩ ?_
  clear KZ HB0
  rintro W ⟨kz, hb⟩
  rw [← hXZ] at kz HZ HBz
  have KZ := Lib.hid kz
  have HB := Lib.hid hb
  clear kz hb hXZ
  go_wp2_with fail
  refine (HDi.out _ HB.out).mono ?_
  rintro e w1 ⟨rfl, b1⟩
  replace KZ := Lib.hid (KZ.out.keep b1)
  replace HB := Lib.hid (bthen HB.out b1)
  obtain ⟨c2, hg, hl⟩ := HLs.out w1 HB.out
  have HT4 : Hid (w1.there w.heap.size 0 XZ.toArray.size) := Lib.hid (blk_there KZ.out (by rw [List.size_toArray]; omega))
  have L4 : Hid (Blk (w1.setCells w.heap.size 0 XZ) w.heap.size 228 XZ.toArray) := Lib.hid (blk_over KZ.out rfl)
  have z4 := KZ.out.lt
  clear b1 HDi HLs
  cases dt with
  | true =>
    have HSe : Hid (sl = (zRf, false)) := Lib.hid (by rw [HSl.out, if_pos rfl])
    go_wp2_with (first | refine wpList_bld0f rfl 228 rfl (.agg XZ.toArray) HBz.out ?_ | refine wpList_store_mid rfl 228 (.tmp 4) (.tmp 15) rfl w.heap.size 0 XZ.toArray rfl rfl HT4.out HZ.out.sizea HZ.out.onea ?_)
    refine fin (fun W => Blk W w.heap.size 228 XZ.toArray ∧ Below w.heap.size w W) ⟨L4.out, below_setCells _ HB.out (Nat.le_refl _)⟩ ?_
    rintro W2 ⟨kr, hb⟩
    have hl := run_loadVar_mid W2 w.heap.size 0 228 XZ _ (blk_whole kr) Tryz.underlying228 rfl HZ.out.size
    try simp only [Go.Act.put, List.setIfInBounds_toArray, List.set_cons_zero, List.set_cons_succ]
    exact bodyPost_ret (v := .tuple #[.agg XZ.toArray, .bool false]) (results_cell2 Tryz.results137 rfl rfl hl) rfl ⟨XZ, by rw [HSe.out], by rw [HSe.out, HZe.out]; rfl, hb⟩
  | false =>
    have HSe : Hid (sl = (v, os)) := Lib.hid (by rw [HSl.out, if_neg (by simp)])
    have hal : Below w1.heap.size w1 (w1.alloc (.cells (cSd zRf).toArray 299)) := alloc_below _ _
    have HT6 : Hid ((w1.alloc (.cells (cSd zRf).toArray 299)).there w1.heap.size 0 XR.toArray.size) := Lib.hid (blk_there (Blk.new w1 _ _) (by rw [List.size_toArray, HX.out.len]; exact Nat.le_refl 14))
    have hbs : Below w1.heap.size w1 ((w1.alloc (.cells (cSd zRf).toArray 299)).setCells w1.heap.size 0 XR) := below_setCells XR hal (Nat.le_refl _)
    have HE6 : Hid (Blk ((w1.alloc (.cells (cSd zRf).toArray 299)).setCells w1.heap.size 0 XR) w1.heap.size 299 XR.toArray ∧ Blk ((w1.alloc (.cells (cSd zRf).toArray 299)).setCells w1.heap.size 0 XR) w.heap.size 228 (cFs zSt).toArray ∧ Below w.heap.size w ((w1.alloc (.cells (cSd zRf).toArray 299)).setCells w1.heap.size 0 XR)) := Lib.hid ⟨blk_over (Blk.new w1 _ _) (by rw [HX.out.len]; rfl), by have := KZ.out.keep hbs; rw [HZe.out] at this; exact this, bthen HB.out hbs⟩
    have hne : w1.heap.size ≠ w.heap.size := by omega
    clear hal hbs
    go_upto_region 4 with (refine wpList_store_mid rfl 299 (.tmp 6) (.tmp 23) rfl w1.heap.size 0 XR.toArray rfl rfl HT6.out HX.out.sizea HX.out.onea ?_)
    refine fin (fun W => Blk W w1.heap.size 299 XR.toArray ∧ Blk W w.heap.size 228 (cFs zSt).toArray ∧ Below w.heap.size w W) HE6.out ?_
    clear HE6 HT6 HT4 L4 hl c2 hg z4
    obtain ⟨g6, hg6⟩ : ∃ g6, g6 = w1.heap.size := ⟨_, rfl⟩
    rw [← hg6] at hne ⊢
    rintro W2 ⟨k6, k4, hb2⟩
    have HR6 := Lib.hid (HRR.out W2 g6 k6)
    have HT4 : Hid (W2.there w.heap.size 0 XF.toArray.size) := Lib.hid (blk_there k4 (by have := HF.out.len; rw [List.size_toArray, this]; exact Nat.le_refl 13))
    have L4 : Hid (Blk (W2.setCells w.heap.size 0 XF) w.heap.size 228 XF.toArray) := Lib.hid (blk_over k4 (by rw [HF.out.len]; rfl))
    have HB2 := Lib.hid hb2
    have z6 := k6.lt
    have z4 := k4.lt
    clear k6 k4 hb2 hg6 HB KZ
    go_wp2_with (first | refine wpList_load_mid rfl 228 (.tmp 25) rfl g6 0 rfl XF _ HR6.out Tryz.underlying228 rfl HF.out.size ?_ | refine wpList_store_mid rfl 228 (.tmp 4) (.tmp 26) rfl w.heap.size 0 XF.toArray rfl rfl HT4.out HF.out.sizea HF.out.onea ?_)
    refine fin (fun W => Blk W w.heap.size 228 XF.toArray ∧ Below w.heap.size w W) ⟨L4.out, below_setCells _ HB2.out (Nat.le_refl _)⟩ ?_
    rintro W3 ⟨kr, hb⟩
    have hl := run_loadVar_mid W3 w.heap.size 0 228 XF _ (blk_whole kr) Tryz.underlying228 rfl HF.out.size
    try simp only [Go.Act.put, List.setIfInBounds_toArray, List.set_cons_zero, List.set_cons_succ]
    exact bodyPost_ret (v := .tuple #[.agg XF.toArray, .bool os]) (results_cell2 Tryz.results137 rfl rfl hl) rfl ⟨XF, by rw [HSe.out], by rw [HSe.out, HFe.out], hb⟩
end
theorem wpList_bs8g {ops : Array Oper} {rest : List Oper} {op : Oper} {a : Go.Act} {w : World} {Q : Exit → Go.Act → World → Prop} (hw : Region.wanted op (yielded ops a.tmps) = true) (t e : TypeId) (x : Operand) (ho : op.op = .buildSlice t 1 #[(0, x)]) (X : List Value) (hx : a.eval x = .agg X.toArray)
    (hrun : ∀ W, (Instr.buildSlice t 1 #[(0, .agg X.toArray)]).run Tryz.prog W = .ok (.slice (some ⟨W.heap.size, 0, none⟩) 1 1) (W.alloc (.cells X.toArray e)))
    (h : wpList Tryz.prog ops Q rest (a.put op.dst (.slice (some ⟨w.heap.size, 0, none⟩) 1 1)) (w.alloc (.cells X.toArray e))) : wpList Tryz.prog ops Q (op :: rest) a w := by
  rw [wpList, if_pos hw]
  refine Or.inl ?_
  unfold Oper.wp execOp
  simp only [ho]
  simp [hx, hrun]
  exact h
theorem bs_matL (A : Nat → Int) (W : World) : (Instr.buildSlice 326 1 #[(0, .agg (lM A).toArray)]).run Tryz.prog W = .ok (.slice (some ⟨W.heap.size, 0, none⟩) 1 1) (W.alloc (.cells (lM A).toArray 46)) := by kernel_rfl
theorem mrow1L {w : World} {g : Nat} {A : Nat → Int} (h : Blk w g 46 (lM A).toArray) : MRow w (some ⟨g, 0, none⟩) 1 [A] := by
  have h2 : Blk w g 46 #[.int .i64 (A 0), .int .i64 (A 1), .int .i64 (A 2), .int .i64 (A 3), .int .i64 (A 4), .int .i64 (A 5), .int .i64 (A 6), .int .i64 (A 7), .int .i64 (A 8), .int .i64 (A 9), .int .i64 (A 10), .int .i64 (A 11)] := h
  refine ⟨rfl, by omega, Or.inr ⟨_, _, rfl, fun i hi j hj => ?_⟩⟩
  obtain rfl : i = 0 := by omega
  have := h2.at12 hj
  rw [Nat.zero_mul, Nat.add_zero, Nat.zero_add]
  exact this
theorem lright_one (A : Nat → Int) (w : World) (g : Nat) (k : Blk w g 46 (lM A).toArray) : Calls Tryz.prog 188 #[.slice (some ⟨g, 0, none⟩) 1 1] w fun e w' => e = .returned (.bool (okM A)) ∧ Below w.heap.size w w' :=
  mright_b (Ms := [A]) (by unfold rightM; simp) (mrow1L k)
structure NF (X : List Value) : Prop where
  len : X.length = 15
  size : (Tryz.prog.info? 205).map (·.size) = some X.length
  sizea : (Tryz.prog.info? 205).map (·.size) = some X.toArray.size
  onea : X.toArray.all (·.oneCell') = true
theorem nf_any (n : Nd) : NF (cNd n) := ⟨rfl, by kernel_rfl, by kernel_rfl, all_oneCell_toArray (cNd_one n)⟩
set_option maxHeartbeats 4000000 in
set_option maxRecDepth 100000 in
theorem lfright_any (a : Option Addr) (n cap : Nat) (l : List Nd) (w : World) (row : NRow w a n l) :
    Calls Tryz.prog 122 #[.slice a n cap] w fun e w' => e = .returned (.bool (!l.any badN)) ∧ Below w.heap.size w w' := by
  have hbig := row.2.1
  have HL := Lib.hid row.1
  have HRow : Hid (∀ u, Below w.heap.size w u → NRow u a n l) := Lib.hid (fun u q => row.keep q)
  clear row
  go_enter Tryz.func122, Tryz.ntmps122
  go_wp2
  go_loopw [4, 7] (fun _ i wr => ∃ j : Nat, j ≤ n ∧ i = .int .i64 j ∧ (l.take j).any badN = false ∧ Below w.heap.size w wr) (fun _ i _ => n - (ivl i).toNat)
  case atStart => exact ⟨0, by omega, rfl, by simp, Below.refl _ _⟩
  case round =>
    obtain ⟨j, hj, rfl, hbad, hb⟩ := hrel
    have HBad := Lib.hid hbad
    have HB := Lib.hid hb
    have hrw := HRow.out wr hb
    clear hbad hb
    by_cases hlt : j < n
    · obtain ⟨b, off, md, rfl, hbl, hm, hr⟩ := hrw.at_ hlt
      have HRg := Lib.hid hr
      have HA9 := Lib.hid (any_step (p := badN) hm)
      have HAll : Hid (badN md = true → l.any badN = true) := Lib.hid (fun hp => any_of_at hm hp)
      have hbd : badN md = (!okM md.pl || decide (md.id < 0)) := rfl
      have HNF := Lib.hid (nf_any md)
      have HMX := Lib.hid (mx_any md.pl)
      have HRi : Hid (∀ W gg, Blk W gg 46 (lM md.pl).toArray → Calls Tryz.prog 188 #[.slice (some ⟨gg, 0, none⟩) 1 1] W fun e w' => e = .returned (.bool (okM md.pl)) ∧ Below W.heap.size W w') := Lib.hid (fun W gg k => lright_one md.pl W gg k)
      have HBs : Hid (∀ W, (Instr.buildSlice 326 1 #[(0, .agg (lM md.pl).toArray)]).run Tryz.prog W = .ok (.slice (some ⟨W.heap.size, 0, none⟩) 1 1) (W.alloc (.cells (lM md.pl).toArray 46))) := Lib.hid (bs_matL md.pl)
      have HCe : Hid (∀ W gg, Blk W gg 205 (cNd md).toArray → W.rangeAt gg 2 (lM md.pl) ∧ W.cell? ⟨gg, 0, none⟩ = some (.int .i64 md.id)) := Lib.hid (fun W gg k => ⟨blk_range k 2 12, k.cell 0⟩)
      have hal : Below wr.heap.size wr (wr.alloc (.cells (cNd zNd).toArray 205)) := alloc_below _ _
      have hbs : Below wr.heap.size wr ((wr.alloc (.cells (cNd zNd).toArray 205)).setCells wr.heap.size 0 (cNd md)) := below_setCells (cNd md) hal (Nat.le_refl _)
      have HTh : Hid ((wr.alloc (.cells (cNd zNd).toArray 205)).there wr.heap.size 0 (cNd md).toArray.size) := Lib.hid (blk_there (Blk.new wr _ _) (by rw [List.size_toArray]; exact Nat.le_refl 15))
      have HK : Hid (Blk ((wr.alloc (.cells (cNd zNd).toArray 205)).setCells wr.heap.size 0 (cNd md)) wr.heap.size 205 (cNd md).toArray ∧ Below w.heap.size w ((wr.alloc (.cells (cNd zNd).toArray 205)).setCells wr.heap.size 0 (cNd md))) := Lib.hid ⟨blk_over (Blk.new wr _ _) rfl, bthen HB.out hbs⟩
      clear hal hbs
      obtain ⟨XM, hXM⟩ : ∃ XM, XM = cNd md := ⟨_, rfl⟩
      obtain ⟨MM, hMM⟩ : ∃ MM, MM = lM md.pl := ⟨_, rfl⟩
      obtain ⟨ok, hok⟩ : ∃ ok, ok = okM md.pl := ⟨_, rfl⟩
      obtain ⟨y, hy⟩ : ∃ y, y = md.id := ⟨_, rfl⟩
      rw [← hXM] at HRg HNF HCe HK HTh
      rw [← hMM] at HMX HRi HBs HCe
      rw [← hok] at HRi hbd
      rw [← hy] at HCe hbd
      have HBd := Lib.hid hbd
      have j0 : (0 : Int) ≤ (j : Int) := by omega
      have j1 : (j : Int) < (n : Int) := by omega
      clear hrw hm hr hbd hXM hMM hok hy
      go_upto_region 4 with (first | refine wpList_load_mid rfl 205 (.tmp 9) rfl b (off + j * 15) rfl XM _ HRg.out Tryz.underlying205 rfl HNF.out.size ?_ | refine wpList_store_mid rfl 205 (.tmp 4) (.tmp 10) rfl wr.heap.size 0 XM.toArray rfl rfl HTh.out HNF.out.sizea HNF.out.onea ?_)
      refine fin (fun W => Blk W wr.heap.size 205 XM.toArray ∧ Below w.heap.size w W) HK.out ?_
      clear HK HTh HRg HB
      obtain ⟨g4, hg4⟩ : ∃ g4, g4 = wr.heap.size := ⟨_, rfl⟩
      rw [← hg4]
      rintro W ⟨k4, hb⟩
      obtain ⟨hr4, c4⟩ := HCe.out W g4 k4
      have HR4 := Lib.hid hr4
      have HB := Lib.hid hb
      have z4 := k4.lt
      clear k4 hb hr4 hg4
      by_cases hyn : y < 0
      · have HE : Hid (l.any badN = true) := Lib.hid (HAll.out (by rw [HBd.out, decide_eq_true hyn]; simp))
        go_wp2
        go_ret
        exact ⟨by rw [HE.out] <;> rfl, HB.out⟩
      · have hy2 : 0 ≤ y := by omega
        go_wp2_with (first | refine wpList_load_g (by rfl) 46 (.tmp 15) rfl g4 2 rfl MM _ HR4.out Tryz.underlying46 rfl HMX.out.size ?_ | refine wpList_bs8g (by rfl) 326 46 (.tmp 16) rfl MM rfl HBs.out ?_)
        refine (HRi.out _ _ (Blk.new W _ _)).mono ?_
        rintro e w2 ⟨rfl, b2⟩
        have HB2 := Lib.hid (bthen HB.out (bthen (alloc_below _ _) b2))
        clear b2 HRi HBs HR4
        cases ok with
        | false =>
          have HE : Hid (l.any badN = true) := Lib.hid (HAll.out (by rw [HBd.out]; rfl))
          go_wp2
          go_ret
          exact ⟨by rw [HE.out] <;> rfl, HB2.out⟩
        | true =>
          have HA8 : Hid ((l.take (j + 1)).any badN = false) := Lib.hid (by rw [HA9.out, HBad.out, HBd.out, decide_eq_false (show ¬ y < 0 by omega)]; rfl)
          go_wp2
          go_roundw
          case rel => exact ⟨j + 1, by omega, by go_num, HA8.out, HB2.out⟩
          case measure => simp [ivl] <;> omega
    · obtain rfl : j = n := by omega
      have e0 : l.take j = l := List.take_of_length_le (by rw [HL.out]; exact Nat.le_refl _)
      rw [e0] at HBad
      have j1 : ¬ (j : Int) < (j : Int) := by omega
      clear e0 hrw
      go_wp2
      go_ret
      exact ⟨by rw [HBad.out] <;> rfl, HB.out⟩
abbrev LK := Int × Int
def cLk (x : LK) : List Value := [.int .i64 x.1, .int .i64 x.2]
def wT (p : Wp) (T : FT) (Ff : Nat → Prop) : Wp := { p with T := T, Ff := Ff }
def tieG : FT → List LK → FT × Int
  | T, [] => (T, 0)
  | T, lk :: r => if lk.2 < 0 then tieG T r else if fsetE T lk.1 lk.2 = 0 then tieG (setF T lk.1 lk.2) r else (T, fsetE T lk.1 lk.2)
section
variable {w u : World} {p q : Wp}
theorem LW.free1 (k : LW u q) (hW : WF q.T) (hL : q.T.length ≤ 1000) {c : Int} (hc : Rg c) : Calls Tryz.prog 95 #[.pointer (some ⟨q.gf, 0, none⟩), .slice (some ⟨u.heap.size, 0, none⟩) 1 1] (u.alloc (.cells #[.int .i64 c] 81)) fun e w' => ∃ z, e = .returned (.int .i64 z) ∧ ∃ Ff', ChL u w' q (wT q (freeF q.T c) Ff') := by
  have hal : Below u.heap.size u (u.alloc (.cells #[.int .i64 c] 81)) := alloc_below _ _
  have hr : Row (u.alloc (.cells #[.int .i64 c] 81)) (some ⟨u.heap.size, 0, none⟩) 1 [c] := ⟨rfl, by omega, Or.inr ⟨_, _, rfl, fun j hj => by
    obtain rfl : j = 0 := by omega
    exact (Blk.new u 81 #[.int .i64 c]).cell 0⟩⟩
  have k2 := k.keep hal
  refine (lfree_any k2.fo hW hL (show 1 ≤ 1000 by omega) hr (Or.inr (fun ad e hf => ?_)) (fun z hz => by rw [List.mem_singleton.1 hz]; exact hc)).mono ?_
  · have := k.fo.inb ad.block hf
    injection e with e
    rw [← e] at this
    exact absurd this (Nat.lt_irrefl _)
  · rintro e w' ⟨rfl, hch⟩
    refine ⟨_, rfl, ?_⟩
    obtain ⟨Ff', hc2⟩ := k2.setF hch
    exact ⟨Ff', (ChL.still k hal).join hc2⟩
theorem LW.set1 (k : LW u q) (hW : WF q.T) (hL : q.T.length ≤ 1000) {c d : Int} (hc : Rg c) (hd : Rg d) : Calls Tryz.prog 63 #[.pointer (some ⟨q.gf, 0, none⟩), .int .i64 c, .int .i64 d] u fun e w' => e = .returned (.int .i64 (fsetE q.T c d)) ∧ ∃ Ff', ChL u w' q (wT q (setS9 q.T c d) Ff') := by
  refine (lset_any k.fo hW hL hc hd).mono ?_
  rintro e w' ⟨rfl, hch⟩
  exact ⟨rfl, k.setF hch⟩
theorem tie_step {X : List LK} {j : Nat} {lk : LK} (h : X[j]? = some lk) (T : FT) : tieG T (X.drop j) = if lk.2 < 0 then tieG T (X.drop (j + 1)) else if fsetE T lk.1 lk.2 = 0 then tieG (setF T lk.1 lk.2) (X.drop (j + 1)) else (T, fsetE T lk.1 lk.2) := by
  obtain ⟨hk, e⟩ := List.getElem?_eq_some_iff.1 h
  rw [List.drop_eq_getElem_cons hk, e]
  rfl
theorem tie_done {X : List LK} {j : Nat} (h : X.length ≤ j) (T : FT) : tieG T (X.drop j) = (T, 0) := by
  rw [List.drop_eq_nil_of_le h]
  rfl
theorem setF_len (T : FT) (c d : Int) : (setF T c d).length ≤ T.length + 1 := by
  unfold setF
  have := free_len T c
  rw [List.length_append, List.length_singleton]
  omega
theorem frees_take {X : List LK} {j : Nat} {lk : LK} (h : X[j]? = some lk) (T : FT) : freeS T ((X.take (j + 1)).map Prod.fst) = freeF (freeS T ((X.take j).map Prod.fst)) lk.1 := by
  unfold freeS
  rw [List.take_add_one, h, List.map_append, List.foldl_append]
  rfl
set_option maxHeartbeats 4000000 in
set_option maxRecDepth 100000 in
theorem lftie_any (h : LW w p) (hW : WF p.T) {a : Option Addr} {n cap : Nat} {X : List LK} (row : RowX 2 cLk w a n X) (ha : AwX (footL p) a n) (hX : ∀ k ∈ X, Rg k.1 ∧ Rg k.2) (hlen : p.T.length + n ≤ 1000) :
    Calls Tryz.prog 192 #[.pointer (some ⟨p.g, 0, none⟩), .slice a n cap] w fun e w' => e = .returned (.int .i64 (tieG (freeS p.T (X.map Prod.fst)) X).2) ∧ ∃ Ff, ChL w w' p (wT p (tieG (freeS p.T (X.map Prod.fst)) X).1 Ff) := by
  have hbig := row.2.1
  have HLen := Lib.hid row.1
  have HRow : Hid (∀ u q, ChL w u p q → RowX 2 cLk u a n X) := Lib.hid (fun u q k => rowx_frame row ha k.2.1)
  have HSt : Hid (ChL w w p (wT p (freeS p.T ((X.take 0).map Prod.fst)) p.Ff)) := Lib.hid (ChL.still h (Below.refl _ _))
  have HF : Hid (∀ u W g6 j lk Ff c d, X[j]? = some lk → lk = (c, d) → ChL w u p (wT p (freeS p.T ((X.take j).map Prod.fst)) Ff) → Below u.heap.size u W → Blk W g6 283 #[.int .i64 c, .int .i64 d] → u.heap.size ≤ g6 → W.cell? ⟨p.g, 0, none⟩ = some (.pointer (some ⟨p.gf, 0, none⟩)) ∧ p.g < W.heap.size ∧ ∀ V, Below W.heap.size W V → Calls Tryz.prog 95 #[.pointer (some ⟨p.gf, 0, none⟩), .slice (some ⟨V.heap.size, 0, none⟩) 1 1] (V.alloc (.cells #[.int .i64 c] 81)) fun e w2 => ∃ z, e = .returned (.int .i64 z) ∧ (∃ Ff', ChL w w2 p (wT p (freeS p.T ((X.take (j + 1)).map Prod.fst)) Ff')) ∧ w2.cell? ⟨p.g, 0, none⟩ = some (.pointer (some ⟨p.gf, 0, none⟩)) ∧ w2.cell? ⟨g6, 0, none⟩ = some (.int .i64 c)) := Lib.hid (fun u W g6 j lk Ff c d hj e k hb hbk hg => by
    subst e
    have k1 := k.1.keep hb
    refine ⟨k1.cells.1, k1.cells.2.2.2.2.2, fun V hV => ?_⟩
    have k2 := k1.keep hV
    refine (k2.free1 (WF.frees _ hW) (by show (freeS p.T _).length ≤ 1000; have := frees_len ((X.take j).map Prod.fst) p.T; omega) (hX _ (List.mem_of_getElem? hj)).1).mono ?_
    rintro e w2 ⟨z, rfl, Ff', hc2⟩
    have hc3 : ChL w w2 p (wT (wT p (freeS p.T ((X.take j).map Prod.fst)) Ff) (freeF (freeS p.T ((X.take j).map Prod.fst)) c) Ff') := (k.join (ChL.still k.1 (bthen hb hV))).join hc2
    refine ⟨z, rfl, ⟨Ff', by rw [frees_take hj]; exact hc3⟩, hc3.1.cells.1, ?_⟩
    have hbV := hbk.keep hV
    have hbf := hbV.same (w' := w2) (hc2.2.1.2.2.2.2 g6 hbV.lt (fun c => by have := k.1.inb g6 c; omega))
    exact hbf.cell 0)
  have HS : Hid (∀ u W g8 j lk T Ff c d, X[j]? = some lk → lk = (c, d) → WF T → T.length + (n - j) ≤ 1000 → ChL w u p (wT p T Ff) → Below u.heap.size u W → Blk W g8 283 #[.int .i64 c, .int .i64 d] → u.heap.size ≤ g8 → W.cell? ⟨p.g, 0, none⟩ = some (.pointer (some ⟨p.gf, 0, none⟩)) ∧ p.g < W.heap.size ∧ ChL w W p (wT p T Ff) ∧ ∀ V, Below W.heap.size W V → Calls Tryz.prog 63 #[.pointer (some ⟨p.gf, 0, none⟩), .int .i64 c, .int .i64 d] V fun e w2 => e = .returned (.int .i64 (fsetE T c d)) ∧ (∃ Ff', ChL w w2 p (wT p (setS9 T c d) Ff')) ∧ w2.cell? ⟨p.g, 0, none⟩ = some (.pointer (some ⟨p.gf, 0, none⟩)) ∧ w2.cell? ⟨g8, 0, none⟩ = some (.int .i64 c) ∧ w2.cell? ⟨g8, 1, none⟩ = some (.int .i64 d)) := Lib.hid (fun u W g6 j lk T Ff c d hj e hWT hTl k hb hbk hg => by
    subst e
    have k1 := k.1.keep hb
    refine ⟨k1.cells.1, k1.cells.2.2.2.2.2, k.join (ChL.still k.1 hb), fun V hV => ?_⟩
    have k2 := k1.keep hV
    have hr := hX _ (List.mem_of_getElem? hj)
    refine (k2.set1 hWT (by show T.length ≤ 1000; omega) hr.1 hr.2).mono ?_
    rintro e w2 ⟨rfl, Ff', hc2⟩
    have hc3 : ChL w w2 p (wT (wT p T Ff) (setS9 T c d) Ff') := (k.join (ChL.still k.1 (bthen hb hV))).join hc2
    have hbV := hbk.keep hV
    have hbf := hbV.same (w' := w2) (hc2.2.1.2.2.2.2 g6 hbV.lt (fun c => by have := k.1.inb g6 c; omega))
    exact ⟨rfl, ⟨Ff', hc3⟩, hc3.1.cells.1, hbf.cell 0, hbf.cell 1⟩)
  have HW0 : Hid (WF (freeS p.T (X.map Prod.fst)) ∧ (freeS p.T (X.map Prod.fst)).length + n ≤ 1000) := Lib.hid ⟨WF.frees _ hW, by have := frees_len (X.map Prod.fst) p.T; omega⟩
  obtain ⟨g, hge⟩ : ∃ g, g = p.g := ⟨_, rfl⟩
  obtain ⟨gf, hfe⟩ : ∃ gf, gf = p.gf := ⟨_, rfl⟩
  rw [← hge] at HF HS ⊢
  rw [← hfe] at HF HS
  obtain ⟨R, hR⟩ : ∃ R, R = tieG (freeS p.T (X.map Prod.fst)) X := ⟨_, rfl⟩
  have HR := Lib.hid hR
  rw [← hR]
  clear h hW row ha hX hlen hge hfe hR
  go_enter Tryz.func192, Tryz.ntmps192
  go_wp2
  go_loopw [6, 12] (fun _ i wr => ∃ (j : Nat) (Ff : Nat → Prop), j ≤ n ∧ i = .int .i64 j ∧ ChL w wr p (wT p (freeS p.T ((X.take j).map Prod.fst)) Ff)) (fun _ i _ => n - (ivl i).toNat)
  case atStart => exact ⟨0, p.Ff, by omega, rfl, HSt.out⟩
  case round =>
    clear HSt
    obtain ⟨j, Ff, hj, rfl, hch⟩ := hrel
    have hrw := HRow.out wr _ hch
    have HCh := Lib.hid hch
    clear hch
    by_cases hlt : j < n
    · obtain ⟨b, off, lk, rfl, hbl, hx, hr⟩ := hrw.at_ hlt
      obtain ⟨c, hc⟩ : ∃ c, c = lk.1 := ⟨_, rfl⟩
      obtain ⟨d, hd⟩ : ∃ d, d = lk.2 := ⟨_, rfl⟩
      have cx : wr.cell? ⟨b, off + j * 2, none⟩ = some (.int .i64 c) := by rw [hc]; exact hr 0 _ rfl
      have cy : wr.cell? ⟨b, off + j * 2 + 1, none⟩ = some (.int .i64 d) := by rw [hd]; exact hr 1 _ rfl
      have hK := Blk.new wr 283 #[.int .i64 c, .int .i64 d]
      have HK : Hid (Blk (wr.alloc (.cells #[.int .i64 c, .int .i64 d] 283)) wr.heap.size 283 #[.int .i64 c, .int .i64 d] ∧ Below wr.heap.size wr (wr.alloc (.cells #[.int .i64 c, .int .i64 d] 283))) := Lib.hid ⟨hK, alloc_below _ _⟩
      have HFr := Lib.hid (fun W g6 => HF.out wr W g6 j lk Ff c d hx (by rw [hc, hd]) HCh.out)
      have j0 : (0 : Int) ≤ (j : Int) := by omega
      have j1 : (j : Int) < (n : Int) := by omega
      clear hrw hx hr hc hd hK
      go_upto_region 4 with fail
      refine fin (fun W => Blk W wr.heap.size 283 #[.int .i64 c, .int .i64 d] ∧ Below wr.heap.size wr W) HK.out ?_
      clear HK cx cy
      obtain ⟨g6, hg6⟩ : ∃ g6, g6 = wr.heap.size := ⟨_, rfl⟩
      rw [← hg6]
      rintro W ⟨k6, hb⟩
      obtain ⟨c0, hg, hfr⟩ := HFr.out W g6 (by rw [hg6] at hb; exact hb) k6 (by omega)
      have HFr2 := Lib.hid hfr
      have c6 : W.cell? ⟨g6, 0, none⟩ = some (.int .i64 c) := k6.cell 0
      have z6 := k6.lt
      clear hfr HFr k6 hb hg6 HCh
      go_region_held3 (fun w' => w'.cell? ⟨g, 0, none⟩ = some (.pointer (some ⟨gf, 0, none⟩)) ∧ w'.cell? ⟨g6, 0, none⟩ = some (.int .i64 c)) (first | exact ⟨c0, c6⟩ | exact ⟨c02, c62⟩ | exact ⟨cell_keep c0 (bthen (below_drew9f W) (alloc_below _ _)), cell_keep c6 (bthen (below_drew9f W) (alloc_below _ _))⟩)
        (first | (go_at_call 95; refine (HFr2.out _ (bdrewn (Below.refl _ _))).mono ?_; rintro e w2 ⟨z, rfl, hch, c02, c62⟩; have HC2 := Lib.hid hch; clear hch))
      obtain ⟨Ff', hch2⟩ := HC2.out
      have HC3 := Lib.hid hch2
      clear hch2 HC2
      go_wp2
      go_roundw
      case rel => exact ⟨j + 1, Ff', by omega, by go_num, HC3.out⟩
      case measure => simp [ivl] <;> omega
    · obtain rfl : j = n := by omega
      have e0 : X.take j = X := List.take_of_length_le (by rw [HLen.out]; exact Nat.le_refl _)
      rw [e0] at HCh
      have j1 : ¬ (j : Int) < (j : Int) := by omega
      clear e0 hrw hlt HF
      go_wp2
      go_loopw [8, 9, 27] (fun _ _ i wx => ∃ (k : Nat) (T : FT) (F2 : Nat → Prop), k ≤ j ∧ i = .int .i64 k ∧ WF T ∧ T.length + (j - k) ≤ 1000 ∧ R = tieG T (X.drop k) ∧ ChL w wx p (wT p T F2)) (fun _ _ i _ => j - (ivl i).toNat)
      case atStart => exact ⟨0, _, Ff, by omega, rfl, HW0.out.1, by have := HW0.out.2; omega, HR.out, HCh.out⟩
      case round =>
        clear HCh
        obtain ⟨k, T, F2, hk, rfl, hWT, hTl, hRe, hch⟩ := hrel
        have hrw := HRow.out wr _ hch
        have HCh := Lib.hid hch
        have HWT := Lib.hid hWT
        have HTl := Lib.hid hTl
        have HRe := Lib.hid hRe
        clear hch hWT hTl hRe
        by_cases hlt : k < j
        · obtain ⟨b, off, lk, rfl, hbl, hx, hr⟩ := hrw.at_ hlt
          have HStp := Lib.hid (tie_step hx T)
          obtain ⟨c, hc⟩ : ∃ c, c = lk.1 := ⟨_, rfl⟩
          obtain ⟨d, hd⟩ : ∃ d, d = lk.2 := ⟨_, rfl⟩
          have cx : wr.cell? ⟨b, off + k * 2, none⟩ = some (.int .i64 c) := by rw [hc]; exact hr 0 _ rfl
          have cy : wr.cell? ⟨b, off + k * 2 + 1, none⟩ = some (.int .i64 d) := by rw [hd]; exact hr 1 _ rfl
          rw [← hc, ← hd] at HStp
          have hK := Blk.new wr 283 #[.int .i64 c, .int .i64 d]
          have HK : Hid (Blk (wr.alloc (.cells #[.int .i64 c, .int .i64 d] 283)) wr.heap.size 283 #[.int .i64 c, .int .i64 d] ∧ Below wr.heap.size wr (wr.alloc (.cells #[.int .i64 c, .int .i64 d] 283))) := Lib.hid ⟨hK, alloc_below _ _⟩
          have HSt := Lib.hid (fun W g6 => HS.out wr W g6 k lk T F2 c d hx (by rw [hc, hd]) HWT.out HTl.out HCh.out)
          have k0 : (0 : Int) ≤ (k : Int) := by omega
          have k1 : (k : Int) < (j : Int) := by omega
          clear hrw hx hr hc hd hK
          go_upto_region 9 with fail
          refine fin (fun W => Blk W wr.heap.size 283 #[.int .i64 c, .int .i64 d] ∧ Below wr.heap.size wr W) HK.out ?_
          clear HK cx cy
          obtain ⟨g6, hg6⟩ : ∃ g6, g6 = wr.heap.size := ⟨_, rfl⟩
          rw [← hg6]
          rintro W ⟨k6, hb⟩
          obtain ⟨c0, hg, hchW, hset⟩ := HSt.out W g6 (by rw [hg6] at hb; exact hb) k6 (by omega)
          have HSet := Lib.hid hset
          have HChW := Lib.hid hchW
          have c6 : W.cell? ⟨g6, 0, none⟩ = some (.int .i64 c) := k6.cell 0
          have c7 : W.cell? ⟨g6, 1, none⟩ = some (.int .i64 d) := k6.cell 1
          have z6 := k6.lt
          clear hset hchW HSt k6 hb hg6 HCh
          by_cases hd0 : d < 0
          · have HN : Hid (R = tieG T (X.drop (k + 1))) := Lib.hid (by rw [HRe.out, HStp.out, if_pos hd0])
            clear HSet
            go_wp2
            go_roundw
            case rel => exact ⟨k + 1, T, F2, by omega, by go_num, HWT.out, by have := HTl.out; omega, HN.out, HChW.out⟩
            case measure => simp [ivl] <;> omega
          · have hd1 : 0 ≤ d := by omega
            have HSd : Hid (setS9 T c d = if fsetE T c d = 0 then setF T c d else T) := Lib.hid rfl
            have HWd : Hid (WF (setS9 T c d)) := Lib.hid (HWT.out.set9 c d)
            obtain ⟨E, hE⟩ : ∃ E, E = fsetE T c d := ⟨_, rfl⟩
            obtain ⟨T2, hT2⟩ : ∃ T2, T2 = setS9 T c d := ⟨_, rfl⟩
            rw [← hE] at HSet HStp HSd
            rw [← hT2] at HSet HSd HWd
            have HStq : Hid (R = if E = 0 then tieG (setF T c d) (X.drop (k + 1)) else (T, E)) := Lib.hid (by rw [HRe.out, HStp.out, if_neg hd0])
            clear hE hT2 HStp
            go_upto_region 10 with fail
            go_region_held3 (fun w' => w'.cell? ⟨g, 0, none⟩ = some (.pointer (some ⟨gf, 0, none⟩)) ∧ w'.cell? ⟨g6, 0, none⟩ = some (.int .i64 c) ∧ w'.cell? ⟨g6, 1, none⟩ = some (.int .i64 d)) (first | exact ⟨c0, c6, c7⟩ | exact ⟨c02, c62, c72⟩)
              (first | (go_at_call 63; refine (HSet.out _ (bdrewn (Below.refl _ _))).mono ?_; rintro e w2 ⟨rfl, hch, c02, c62, c72⟩; have HC2 := Lib.hid hch; clear hch))
            obtain ⟨Ff', hch2⟩ := HC2.out
            have HC3 := Lib.hid hch2
            clear hch2 HC2
            by_cases hE0 : E = 0
            · subst hE0
              have HT2e : Hid (T2 = setF T c d) := Lib.hid (by rw [HSd.out, if_pos rfl])
              have HN : Hid (R = tieG T2 (X.drop (k + 1))) := Lib.hid (by rw [HStq.out, if_pos rfl, HT2e.out])
              have HTl2 : Hid (T2.length + (j - (k + 1)) ≤ 1000) := Lib.hid (by rw [HT2e.out]; have := HTl.out; have := setF_len T c d; omega)
              go_wp2
              go_roundw
              case rel => exact ⟨k + 1, T2, Ff', by omega, by go_num, HWd.out, HTl2.out, HN.out, HC3.out⟩
              case measure => simp [ivl] <;> omega
            · have HN : Hid (R = (T, E)) := Lib.hid (by rw [HStq.out, if_neg hE0])
              have HT2e : Hid (T2 = T) := Lib.hid (by rw [HSd.out, if_neg hE0])
              go_wp2
              go_ret
              exact ⟨by rw [HN.out] <;> rfl, Ff', by have := HC3.out; rw [HT2e.out] at this; rw [HN.out]; exact this⟩
        · obtain rfl : k = j := by omega
          have HN : Hid (R = (T, 0)) := Lib.hid (by rw [HRe.out, tie_done (by rw [HLen.out]; exact Nat.le_refl _)])
          have k1 : ¬ (k : Int) < (k : Int) := by omega
          clear hrw hlt
          go_wp2
          go_ret
          exact ⟨by rw [HN.out] <;> rfl, F2, by rw [HN.out]; exact HCh.out⟩
end
end Go.Proofs.YthhfcedhbfandaaGreat
