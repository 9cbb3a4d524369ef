/-
  2 texts in one file, each with its own heading.
-/
import Derived.Test.YtdndafdninnjfaaGreatMQLflG
/-
  The landed flow as plain data: what putting, dropping and running make of it, held against the document's.
-/
namespace Go.Proofs.YtdndafdninnjfaaGreat
open Go.RowKit

/-! the last node of a name -/
def updF (m : Int → Option Nd) (l : List Nd) : Int → Option Nd := l.foldl (fun m n => upm m n.id (some n)) m
def lastF (l : List Nd) : Int → Option Nd := updF (fun _ => none) l
theorem upd_or : ∀ (l : List Nd) (m : Int → Option Nd) (x : Int), updF m l x = (lastF l x).or (m x)
  | [], m, x => rfl
  | n :: l, m, x => by
    have h1 := upd_or l (upm m n.id (some n)) x
    have h2 := upd_or l (upm (fun _ => none) n.id (some n)) x
    show updF (upm m n.id (some n)) l x = (updF (upm (fun _ => none) n.id (some n)) l x).or (m x)
    rw [h1, h2]
    unfold upm
    by_cases c : x = n.id
    · rw [if_pos c, if_pos c]
      cases lastF l x <;> rfl
    · rw [if_neg c, if_neg c]
      cases lastF l x <;> rfl
theorem last_step {l : List Nd} {j : Nat} {n : Nd} (h : l[j]? = some n) : lastF (l.take (j + 1)) = upm (lastF (l.take j)) n.id (some n) := by
  unfold lastF updF
  rw [List.take_add_one, h, List.foldl_append]
  rfl
theorem el_withN {L : List Nd} (hn : (L.map Nd.id).Nodup) (n : Nd) (x : Int) : elF Nd.id (withN L n) x = upm (elF Nd.id L) n.id (some n) x := by
  unfold upm
  by_cases c : x = n.id
  · rw [if_pos c, c]
    exact el_of_mem (withN_nod hn n) (mem_withN.2 (Or.inr rfl))
  · rw [if_neg c]
    exact el_ext hn (fun m hm => by
      rw [mem_withN]
      exact ⟨fun q => q.elim And.left (fun e => absurd (hm.symm.trans (congrArg Nd.id e)) c), fun q => Or.inl ⟨q, fun e => c (hm.symm.trans e)⟩⟩)
theorem el_withS : ∀ (l : List Nd) {L : List Nd}, (L.map Nd.id).Nodup → ∀ x, elF Nd.id (withS L l) x = (lastF l x).or (elF Nd.id L x)
  | [], L, _, x => rfl
  | n :: l, L, h, x => by
    have ih := el_withS l (withN_nod h n) x
    show elF Nd.id (withS (withN L n) l) x = (updF (upm (fun _ => none) n.id (some n)) l x).or (elF Nd.id L x)
    rw [ih, upd_or, el_withN h]
    unfold upm
    by_cases c : x = n.id
    · rw [if_pos c, if_pos c]
      cases lastF l x <;> rfl
    · rw [if_neg c, if_neg c]
      cases lastF l x <;> rfl
theorem last_id : ∀ {l : List Nd} {x : Int} {n : Nd}, lastF l x = some n → n.id = x ∧ n ∈ l
  | [], x, n, h => by cases h
  | m :: l, x, n, h => by
    have h1 : (lastF l x).or (upm (fun _ => none) m.id (some m) x) = some n := by rw [← upd_or]; exact h
    cases q : lastF l x with
    | some n' =>
      rw [q] at h1
      have e : n' = n := by injection h1
      have := last_id (l := l) q
      rw [e] at this
      exact ⟨this.1, List.mem_cons_of_mem _ this.2⟩
    | none =>
      rw [q] at h1
      unfold upm at h1
      by_cases c : x = m.id
      · have h2 : (if x = m.id then some m else none) = some n := h1
        rw [if_pos c] at h2
        injection h2 with h2
        rw [← h2]
        exact ⟨c.symm, List.mem_cons_self⟩
      · have h2 : (if x = m.id then some m else none) = some n := h1
        rw [if_neg c] at h2
        cases h2
theorem last_mem : ∀ {l : List Nd} {x : Int}, (lastF l x).isSome = true ↔ x ∈ l.map Nd.id
  | [], x => by simp [lastF, updF]
  | m :: l, x => by
    have h1 : lastF (m :: l) x = (lastF l x).or (upm (fun _ => none) m.id (some m) x) := upd_or l _ x
    have ih := last_mem (l := l) (x := x)
    rw [h1, List.map_cons, List.mem_cons, ← ih]
    unfold upm
    cases q : lastF l x with
    | some n => simp
    | none =>
      by_cases c : x = m.id
      · simp [c]
      · simp [c]
/-- the names that are put, rising -/
def keysN (l : List Nd) : List Int := cmpS (l.map Nd.id)
theorem mem_keys {l : List Nd} {x : Int} : x ∈ keysN l ↔ (lastF l x).isSome = true := by
  unfold keysN
  rw [mem_cmpS, last_mem]
/-! ties -/
theorem tie_off : ∀ (X : List LK) (T : FT) {x : Int}, x ∉ X.map Prod.fst → parO (tieG T X).1 x = parO T x
  | [], _, _, _ => rfl
  | lk :: r, T, x, h => by
    rw [List.map_cons, List.mem_cons, not_or] at h
    unfold tieG
    by_cases c : lk.2 < 0
    · rw [if_pos c]; exact tie_off r T h.2
    · rw [if_neg c]
      by_cases d : fsetE T lk.1 lk.2 = 0
      · rw [if_pos d, tie_off r _ h.2, par_set, if_neg h.1]
      · rw [if_neg d]
theorem tie_e : ∀ (X : List LK) (T : FT), (tieG T X).2 = 0 ∨ (tieG T X).2 = 8
  | [], _ => Or.inl rfl
  | lk :: r, T => by
    unfold tieG
    by_cases c : lk.2 < 0
    · rw [if_pos c]; exact tie_e r T
    · rw [if_neg c]
      by_cases d : fsetE T lk.1 lk.2 = 0
      · rw [if_pos d]; exact tie_e r _
      · rw [if_neg d]
        refine Or.inr ?_
        show fsetE T lk.1 lk.2 = 8
        unfold fsetE at d ⊢
        split at d
        · rename_i q; rw [if_pos q]
        · exact absurd rfl d
theorem tie_spec : ∀ (X : List LK) {T : FT}, (X.map Prod.fst).Nodup → (∀ c ∈ X.map Prod.fst, parO T c = none) → (tieG T X).2 = 0 → ∀ lk ∈ X, parO (tieG T X).1 lk.1 = if lk.2 < 0 then none else some lk.2
  | [], _, _, _, _, lk, h => by cases h
  | k :: r, T, hn, hf, he, lk, h => by
    rw [List.map_cons, List.nodup_cons] at hn
    unfold tieG at he ⊢
    by_cases c : k.2 < 0
    · rw [if_pos c] at he ⊢
      rcases List.mem_cons.1 h with rfl | h
      · rw [tie_off r T hn.1, hf _ (by simp), if_pos c]
      · exact tie_spec r hn.2 (fun z hz => hf z (List.mem_cons_of_mem _ hz)) he lk h
    · rw [if_neg c] at he ⊢
      by_cases d : fsetE T k.1 k.2 = 0
      · rw [if_pos d] at he ⊢
        rcases List.mem_cons.1 h with rfl | h
        · rw [tie_off r _ hn.1, par_set, if_pos rfl, if_neg c]
        · exact tie_spec r hn.2 (fun z hz => by
            rw [par_set, if_neg (fun e : z = k.1 => hn.1 (e ▸ hz))]
            exact hf z (List.mem_cons_of_mem _ hz)) he lk h
      · rw [if_neg d] at he
        exact absurd he d
theorem abv_sub {T R : FT} (hT : WF T) (hR : WF R) (h : ∀ x y, parO T x = some y → parO R x = some y) {x z : Int} (hz : z ∈ abv T x) : z ∈ abv R x := by
  have key : ∀ (l : List Int) (x : Int), IsA T x l → z ∈ l → z ∈ abv R x := by
    intro l
    induction l with
    | nil => intro x _ q; cases q
    | cons y l ih =>
      intro x hx q
      rw [abv_some hR (h x y hx.1)]
      rcases List.mem_cons.1 q with rfl | q
      · exact List.mem_cons_self
      · exact List.mem_cons_of_mem _ (ih y hx.2 q)
  exact key _ x (hT.isA x) hz
theorem tie_good {R : FT} (hR : WF R) : ∀ (X : List LK) {T : FT}, WF T → (∀ lk ∈ X, parO R lk.1 = if lk.2 < 0 then none else some lk.2) → (∀ x y, parO T x = some y → parO R x = some y) → (tieG T X).2 = 0
  | [], _, _, _, _ => rfl
  | k :: r, T, hT, hX, hs => by
    unfold tieG
    by_cases c : k.2 < 0
    · rw [if_pos c]
      exact tie_good hR r hT (fun lk h => hX lk (List.mem_cons_of_mem _ h)) hs
    · rw [if_neg c]
      have hk := hX k List.mem_cons_self
      rw [if_neg c] at hk
      have d : fsetE T k.1 k.2 = 0 := by
        unfold fsetE
        rw [if_neg]
        rintro (q | q)
        · have h1 := abv_sub hT hR hs q
          have h2 := abv_some hR hk
          exact (hR.isA k.1).self (by rw [h2]; exact List.mem_cons_of_mem _ h1)
        · exact not_own hR k.1 (by rw [hk, q])
      rw [if_pos d]
      have hT2 : WF (setF T k.1 k.2) := by
        have := hT.set9 k.1 k.2
        unfold setS9 at this
        rw [if_pos d] at this
        exact this
      refine tie_good hR r hT2 (fun lk h => hX lk (List.mem_cons_of_mem _ h)) (fun x y hx => ?_)
      rw [par_set] at hx
      by_cases e : x = k.1
      · rw [if_pos e] at hx
        injection hx with hx
        rw [e, hk, hx]
      · rw [if_neg e] at hx
        exact hs x y hx
theorem fst_to (T : FT) (m : Int → Option Nd) (K : List Int) : (toL T m K).map Prod.fst = K.filter (fun x => decide (parM T x ≠ wnt m x)) ∧ (fromL T m K).map Prod.fst = K.filter (fun x => decide (parM T x ≠ wnt m x)) := by
  unfold toL fromL
  induction K with
  | nil => exact ⟨rfl, rfl⟩
  | cons a K ih =>
    by_cases c : parM T a = wnt m a
    · rw [List.filterMap_cons_none (by rw [if_pos c]), List.filterMap_cons_none (by rw [if_pos c]), List.filter_cons_of_neg (by simp [c])]
      exact ih
    · rw [List.filterMap_cons_some (b := (a, wnt m a)) (by rw [if_neg c]), List.filterMap_cons_some (b := (a, parM T a)) (by rw [if_neg c]), List.filter_cons_of_pos (by simpa using c), List.map_cons, List.map_cons, ih.1, ih.2]
      exact ⟨rfl, rfl⟩
theorem mem_to {T : FT} {m : Int → Option Nd} {K : List Int} {lk : LK} : (lk ∈ toL T m K ↔ lk.1 ∈ K ∧ parM T lk.1 ≠ wnt m lk.1 ∧ lk.2 = wnt m lk.1) ∧ (lk ∈ fromL T m K ↔ lk.1 ∈ K ∧ parM T lk.1 ≠ wnt m lk.1 ∧ lk.2 = parM T lk.1) := by
  unfold toL fromL
  rw [List.mem_filterMap, List.mem_filterMap]
  obtain ⟨a, b⟩ := lk
  constructor
  · constructor
    · rintro ⟨x, hx, h⟩
      by_cases c : parM T x = wnt m x
      · rw [if_pos c] at h; cases h
      · rw [if_neg c] at h
        injection h with h
        injection h with h1 h2
        subst h1
        exact ⟨hx, c, h2.symm⟩
    · rintro ⟨h1, h2, h3⟩
      exact ⟨a, h1, by rw [if_neg h2]; show some (a, wnt m a) = some (a, b); rw [show b = wnt m a from h3]⟩
  · constructor
    · rintro ⟨x, hx, h⟩
      by_cases c : parM T x = wnt m x
      · rw [if_pos c] at h; cases h
      · rw [if_neg c] at h
        injection h with h
        injection h with h1 h2
        subst h1
        exact ⟨hx, c, h2.symm⟩
    · rintro ⟨h1, h2, h3⟩
      exact ⟨a, h1, by rw [if_neg h2]; show some (a, parM T a) = some (a, b); rw [show b = parM T a from h3]⟩
section
variable {D : FD} {p : Wp} {l : List Nd}
theorem LI.parM0 (h : LI D p) (x : Int) : parO p.T x = if parM p.T x < 0 then none else some (parM p.T x) := by
  unfold parM
  cases e : parO p.T x with
  | none => rfl
  | some y =>
    rw [h.par] at e
    obtain ⟨n, _, _, c, e2⟩ := mem_raw.1 (par_mem e)
    show some y = if y < 0 then none else some y
    rw [if_neg (by omega)]
theorem raw_put (hD : DOk D) (h : LI D p) (x : Int) : parO (rawT (withS D.L l)) x = if x ∈ keysN l then (if wnt (lastF l) x < 0 then none else some (wnt (lastF l) x)) else parO p.T x := by
  have hn' := withS_nod l hD.nod
  have he := el_withS l hD.nod x
  by_cases c : x ∈ keysN l
  · rw [if_pos c]
    obtain ⟨n, hn⟩ := Option.isSome_iff_exists.1 (mem_keys.1 c)
    rw [hn] at he
    rw [raw_some hn' he]
    unfold wnt
    rw [hn]
    show (if 0 ≤ n.par then some n.par else none) = if (if n.par < -1 then (-1 : Int) else n.par) < 0 then none else some (if n.par < -1 then (-1 : Int) else n.par)
    by_cases d : n.par < -1
    · rw [if_pos d, if_neg (by omega), if_pos (by omega)]
    · rw [if_neg d]
      by_cases f : 0 ≤ n.par
      · rw [if_pos f, if_neg (by omega)]
      · rw [if_neg f, if_pos (by omega)]
  · rw [if_neg c]
    have hno : lastF l x = none := by
      cases q : lastF l x with
      | none => rfl
      | some n => exact absurd (mem_keys.2 (by rw [q]; rfl)) c
    rw [hno] at he
    have he : elF Nd.id (withS D.L l) x = elF Nd.id D.L x := he
    rw [h.par]
    cases q : elF Nd.id D.L x with
    | none => rw [raw_none (he.trans q), raw_none q]
    | some n => rw [raw_some hn' (he.trans q), raw_some hD.nod q]
/-- who moves -/
theorem LI.moves (hD : DOk D) (h : LI D p) (hb : l.any badN = false) :
    (tieG (freeS p.T ((toL p.T (lastF l) (keysN l)).map Prod.fst)) (toL p.T (lastF l) (keysN l))).2 = putFE D l ∧ WF (movT p.T (toL p.T (lastF l) (keysN l)) (fromL p.T (lastF l) (keysN l))) ∧
      (putFE D l = 0 → ∀ x, parO (movT p.T (toL p.T (lastF l) (keysN l)) (fromL p.T (lastF l) (keysN l))) x = parO (rawT (withS D.L l)) x) ∧
      (putFE D l ≠ 0 → ∀ x, parO (movT p.T (toL p.T (lastF l) (keysN l)) (fromL p.T (lastF l) (keysN l))) x = parO p.T x) := by
  obtain ⟨X, hX⟩ : ∃ X, X = toL p.T (lastF l) (keysN l) := ⟨_, rfl⟩
  obtain ⟨Y, hY⟩ : ∃ Y, Y = fromL p.T (lastF l) (keysN l) := ⟨_, rfl⟩
  have hfs := fst_to p.T (lastF l) (keysN l)
  have hme := fun lk => mem_to (T := p.T) (m := lastF l) (K := keysN l) (lk := lk)
  rw [← hX, ← hY] at hfs ⊢
  rw [← hX, ← hY] at hme
  have hnd : (X.map Prod.fst).Nodup := by rw [hfs.1]; exact (up_nod (cmpS_up _)).sublist List.filter_sublist
  have hcs : ∀ x, x ∈ X.map Prod.fst ↔ x ∈ keysN l ∧ parM p.T x ≠ wnt (lastF l) x := fun x => by rw [hfs.1, List.mem_filter, decide_eq_true_eq]
  have hfe : Y.map Prod.fst = X.map Prod.fst := hfs.2.trans hfs.1.symm
  have hW1 : WF (freeS p.T (X.map Prod.fst)) := WF.frees _ h.wf
  have hfr : ∀ x, parO (freeS p.T (X.map Prod.fst)) x = if x ∈ X.map Prod.fst then none else parO p.T x := fun x => par_frees x _ _
  have htgt : ∀ lk ∈ X, parO (rawT (withS D.L l)) lk.1 = if lk.2 < 0 then none else some lk.2 := fun lk hlk => by
    obtain ⟨k1, k2, k3⟩ := (hme lk).1.1 hlk
    rw [raw_put hD h, if_pos k1, k3]
  have hstay : ∀ x, x ∉ X.map Prod.fst → parO p.T x = parO (rawT (withS D.L l)) x := fun x hx => by
    rw [raw_put hD h]
    by_cases c : x ∈ keysN l
    · rw [if_pos c]
      have e : parM p.T x = wnt (lastF l) x := by
        by_cases d : parM p.T x = wnt (lastF l) x
        · exact d
        · exact absurd ((hcs x).2 ⟨c, d⟩) hx
      rw [← e]
      exact h.parM0 x
    · rw [if_neg c]
  have hall : (tieG (freeS p.T (X.map Prod.fst)) X).2 = 0 → ∀ x, parO (tieG (freeS p.T (X.map Prod.fst)) X).1 x = parO (rawT (withS D.L l)) x := fun h0 x => by
    by_cases c : x ∈ X.map Prod.fst
    · obtain ⟨lk, hlk, e⟩ := List.mem_map.1 c
      have h1 := tie_spec X hnd (fun z hz => by rw [hfr, if_pos hz]) h0 lk hlk
      rw [← e, h1, htgt lk hlk]
    · rw [tie_off X _ c, hfr, if_neg c]
      exact hstay x c
  have hn' := withS_nod l hD.nod
  have hbE : putFE D l = if (withS D.L l).any (fun n => ringB (withS D.L l) n.id) then 8 else 0 := by
    unfold putFE
    rw [hb]
    simp
  have hW2 := tie_wf X hW1
  by_cases h0 : putFE D l = 0
  · have hW' := tree_wf hn' (putFE_zero h0).2
    have hR := raw_wf hn' hW'
    have hg : (tieG (freeS p.T (X.map Prod.fst)) X).2 = 0 := tie_good hR X hW1 htgt (fun x y hx => by
      rw [hfr] at hx
      by_cases c : x ∈ X.map Prod.fst
      · rw [if_pos c] at hx; cases hx
      · rw [if_neg c] at hx
        rw [← hstay x c]
        exact hx)
    have hm : movT p.T X Y = (tieG (freeS p.T (X.map Prod.fst)) X).1 := by unfold movT; rw [if_pos hg]
    rw [hm]
    exact ⟨by rw [hg, h0], hW2, fun _ => hall hg, fun c => absurd h0 c⟩
  · have h8 : putFE D l = 8 := by
      rw [hbE] at h0 ⊢
      split
      · rfl
      · rename_i q; rw [if_neg q] at h0; exact absurd rfl h0
    have hg : (tieG (freeS p.T (X.map Prod.fst)) X).2 = 8 := by
      rcases tie_e X (freeS p.T (X.map Prod.fst)) with q | q
      · exfalso
        have hWr := wf_eq (raw_nod hn') (hall q) hW2
        have hWt := wf_raw hn' hWr
        refine h0 ?_
        rw [hbE, if_neg]
        rw [List.any_eq_true]
        rintro ⟨n, _, hr⟩
        rw [no_ring10 hn' hWt] at hr
        cases hr
      · exact q
    have hm : movT p.T X Y = (tieG (freeS (tieG (freeS p.T (X.map Prod.fst)) X).1 (Y.map Prod.fst)) Y).1 := by unfold movT; rw [if_neg (by rw [hg]; omega)]
    have hfr2 : ∀ x, parO (freeS (tieG (freeS p.T (X.map Prod.fst)) X).1 (Y.map Prod.fst)) x = if x ∈ X.map Prod.fst then none else parO p.T x := fun x => by
      rw [par_frees, hfe]
      by_cases c : x ∈ X.map Prod.fst
      · rw [if_pos c, if_pos c]
      · rw [if_neg c, if_neg c, tie_off X _ c, hfr, if_neg c]
    have hW3 : WF (freeS (tieG (freeS p.T (X.map Prod.fst)) X).1 (Y.map Prod.fst)) := WF.frees _ hW2
    have htg2 : ∀ lk ∈ Y, parO p.T lk.1 = if lk.2 < 0 then none else some lk.2 := fun lk hlk => by
      obtain ⟨_, _, k3⟩ := (hme lk).2.1 hlk
      rw [k3]
      exact h.parM0 lk.1
    have hg2 : (tieG (freeS (tieG (freeS p.T (X.map Prod.fst)) X).1 (Y.map Prod.fst)) Y).2 = 0 := tie_good h.wf Y hW3 htg2 (fun x y hx => by
      rw [hfr2] at hx
      by_cases c : x ∈ X.map Prod.fst
      · rw [if_pos c] at hx; cases hx
      · rw [if_neg c] at hx; exact hx)
    refine ⟨by rw [hg, h8], by rw [hm]; exact tie_wf Y hW3, fun c => absurd c h0, fun _ x => ?_⟩
    rw [hm]
    by_cases c : x ∈ X.map Prod.fst
    · rw [← hfe] at c
      obtain ⟨lk, hlk, e⟩ := List.mem_map.1 c
      have h1 := tie_spec Y (by rw [hfe]; exact hnd) (fun z hz => by rw [hfr2, if_pos (by rw [← hfe]; exact hz)]) hg2 lk hlk
      rw [← e, h1, htg2 lk hlk]
    · rw [tie_off Y _ (by rw [hfe]; exact c), hfr2, if_neg c]
end
/-! what isn't touched is the same -/
theorem still_same {D D' : FD} (h : DOk D) (hn' : (D'.L.map Nd.id).Nodup) (hW' : WF (treesN D'.L)) (hb : D'.begun = D.begun) (hd : ∀ z ∈ D.dirty, z ∈ D'.dirty)
    (hel : ∀ y, y ∉ D'.dirty → (elF Nd.id D'.L y).isSome = true → elF Nd.id D'.L y = elF Nd.id D.L y)
    (hha : ∀ y, y ∉ D'.dirty → (elF Nd.id D'.L y).isSome = true → (0 ≤ hangs D'.L y → hangs D'.L y ∉ D'.dirty) → hangs D'.L y = hangs D.L y)
    (hb' : D'.begun = true) {x : Int} (hx : (elF Nd.id D'.L x).isSome = true) (ht : x ∉ touchN D') :
    x ∉ D'.dirty ∧ (elF Nd.id D.L x).isSome = true ∧ x ∉ touchN D ∧ stv D'.L x = stv D.L x := by
  have hnd : ∀ y ∈ x :: abv (treesN D'.L) x, y ∉ D'.dirty := fun y hy hyd => ht ((mem_touch hW').2 (by
    rcases List.mem_cons.1 hy with rfl | hy
    · exact ⟨y, (mem_dirty hb').2 ⟨hyd, hx⟩, Or.inl rfl⟩
    · exact ⟨y, (mem_dirty hb').2 ⟨hyd, abv_node hW' hy⟩, Or.inr hy⟩))
  obtain ⟨k1, k2⟩ := way_stay h.nod hn' hel hha (abv (treesN D'.L) x) x (hW'.isA x) hx hnd
  have ea : abv (treesN D.L) x = abv (treesN D'.L) x := (h.wf.isA x).uniq k1
  refine ⟨hnd x List.mem_cons_self, by rw [← k2 x List.mem_cons_self]; exact hx, fun c => ?_, ?_⟩
  · obtain ⟨y, hy, hxy⟩ := (mem_touch h.wf).1 c
    have hyd := hd y ((mem_dirty (hb ▸ hb')).1 hy).1
    refine hnd y ?_ hyd
    rcases hxy with rfl | q
    · exact List.mem_cons_self
    · rw [ea] at q; exact List.mem_cons_of_mem _ q
  · have e1 : fate D'.L x = fate D.L x := by
      unfold fate
      rw [ea]
      exact fateL_congr k2
    unfold stv
    rw [e1, ea]
end Go.Proofs.YtdndafdninnjfaaGreat
/-
  The landed flow as plain data: it stays what the document's is, behind putting, dropping and running; what State answers.
-/
namespace Go.Proofs.YtdndafdninnjfaaGreat
open Go.RowKit

section
variable {D : FD} {p : Wp} {l : List Nd}
theorem put_still (hD : DOk D) (h0 : putFE D l = 0) (hb : D.begun = true) {x : Int} (hx : (elF Nd.id (withS D.L l) x).isSome = true) (ht : x ∉ touchN (putFD D l)) :
    x ∉ D.dirty ++ l.map Nd.id ∧ (elF Nd.id D.L x).isSome = true ∧ x ∉ touchN D ∧ stv (withS D.L l) x = stv D.L x := by
  have hput : putFD D l = { D with L := withS D.L l, dirty := D.dirty ++ l.map Nd.id } := by unfold putFD; rw [if_pos h0]
  rw [hput] at ht
  have hn' : ((withS D.L l).map Nd.id).Nodup := withS_nod l hD.nod
  have hW' := tree_wf hn' (putFE_zero h0).2
  have hel : ∀ y, y ∉ D.dirty ++ l.map Nd.id → elF Nd.id (withS D.L l) y = elF Nd.id D.L y := fun y hy =>
    el_ext hD.nod (fun m hm => withS_other (by rw [hm]; exact fun q => hy (List.mem_append_right _ q)))
  refine still_same (D := D) (D' := { D with L := withS D.L l, dirty := D.dirty ++ l.map Nd.id }) hD hn' hW' rfl (fun z hz => List.mem_append_left _ hz) (fun y hy _ => hel y hy) (fun y hy hs hh => ?_) hb hx ht
  obtain ⟨n, e⟩ := Option.isSome_iff_exists.1 hs
  have e' : elF Nd.id D.L y = some n := (hel y hy).symm.trans e
  have k1 := hangs_some e
  have k2 := hangs_some e'
  show hangs (withS D.L l) y = hangs D.L y
  have hh' : 0 ≤ hangs (withS D.L l) y → hangs (withS D.L l) y ∉ D.dirty ++ l.map Nd.id := hh
  rw [k1] at hh'
  rw [k1, k2]
  by_cases p0 : n.par < 0
  · rw [if_pos (Or.inl p0), if_pos (Or.inl p0)]
  · by_cases p1 : (elF Nd.id (withS D.L l) n.par).isNone = true
    · have p2 : (elF Nd.id D.L n.par).isNone = true := by
        rw [none_iff, el_id] at p1 ⊢
        exact fun q => p1 (withS_id.2 (Or.inl q))
      rw [if_pos (Or.inr p1), if_pos (Or.inr p2)]
    · rw [if_neg (fun q => q.elim p0 p1)] at hh' ⊢
      have := hel _ (hh' (by omega))
      rw [this] at p1
      rw [if_neg (fun q => q.elim p0 p1)]
/-- the bodies that are put -/
def putNs (N : Int → Option BD) (m : Int → Option Nd) (K : List Int) (x : Int) : Option BD := if x ∈ K then some (((m x).getD zNd).pl, ((m x).getD zNd).hid) else N x
theorem putNs_step {N : Int → Option BD} {m : Int → Option Nd} {K : List Int} {j : Nat} {z : Int} (h : K[j]? = some z) : putNs N m (K.take (j + 1)) = upm (putNs N m (K.take j)) z (some (((m z).getD zNd).pl, ((m z).getD zNd).hid)) := by
  funext y
  unfold putNs upm
  rw [List.take_add_one, h]
  by_cases c : y = z
  · rw [if_pos c, if_pos (by rw [c]; simp), c]
  · rw [if_neg c]
    show _ = if y ∈ K.take j then _ else N y
    by_cases d : y ∈ K.take j
    · rw [if_pos d, if_pos (List.mem_append_left _ d)]
    · rw [if_neg d, if_neg (fun k => (List.mem_append.1 k).elim d (fun k => c (by simpa using k)))]
theorem LI.put (hD : DOk D) (h : LI D p) (h0 : putFE D l = 0) {T : FT} {Ff : Nat → Prop} (hW : WF T) (hT : ∀ x, parO T x = parO (rawT (withS D.L l)) x) :
    LI (putFD D l) (mkP { wT p T Ff with N := putNs p.N (lastF l) (keysN l) } (keysN l)) := by
  have hput : putFD D l = { D with L := withS D.L l, dirty := D.dirty ++ l.map Nd.id } := by unfold putFD; rw [if_pos h0]
  have hel := el_withS l hD.nod
  have hkl : ∀ x, x ∈ keysN l ↔ x ∈ l.map Nd.id := fun x => mem_keys.trans last_mem
  have hno : ∀ x, x ∉ keysN l → elF Nd.id (withS D.L l) x = elF Nd.id D.L x := fun x c => by
    rw [hel]
    cases q : lastF l x with
    | none => rfl
    | some n => exact absurd (mem_keys.2 (by rw [q]; rfl)) c
  have hyes : ∀ x, x ∈ keysN l → ∃ n, lastF l x = some n ∧ elF Nd.id (withS D.L l) x = some n := fun x c => by
    obtain ⟨n, hn⟩ := Option.isSome_iff_exists.1 (mem_keys.1 c)
    exact ⟨n, hn, by rw [hel, hn]; rfl⟩
  have hL : (putFD D l).L = withS D.L l := by rw [hput]
  refine ⟨hW, fun x => by rw [hL]; exact hT x, fun x => ?_, fun x => ?_, fun x hx => ?_, fun hb x hx ht => ?_, ?_⟩
  · rw [hL]
    show putNs p.N (lastF l) (keysN l) x = _
    unfold putNs
    by_cases c : x ∈ keysN l
    · obtain ⟨n, h1, h2⟩ := hyes x c
      rw [if_pos c, h1, h2]; rfl
    · rw [if_neg c, hno x c, h.nod]
  · rw [hL]
    show (mkM p.M (keysN l) x).isSome = true ↔ _ ∧ ((putFD D l).begun = true → x ∈ (putFD D l).dirty)
    rw [hput]
    show (mkM p.M (keysN l) x).isSome = true ↔ _ ∧ (D.begun = true → x ∈ D.dirty ++ l.map Nd.id)
    unfold mkM
    by_cases c : x ∈ keysN l
    · obtain ⟨n, h1, h2⟩ := hyes x c
      rw [if_pos c, h2]
      exact ⟨fun _ => ⟨rfl, fun _ => List.mem_append_right _ ((hkl x).1 c)⟩, fun _ => rfl⟩
    · rw [if_neg c, hno x c, h.mrk]
      exact ⟨fun q => ⟨q.1, fun b => List.mem_append_left _ (q.2 b)⟩, fun q => ⟨q.1, fun b => (List.mem_append.1 (q.2 b)).elim id (fun k => absurd ((hkl x).2 k) c)⟩⟩
  · rw [hL] at hx
    show mkS p.S (keysN l) x = none
    unfold mkS
    by_cases c : x ∈ keysN l
    · rw [if_pos c]
    · rw [if_neg c]
      rw [hno x c] at hx
      exact h.non x hx
  · have hb' : D.begun = true := by rw [hput] at hb; exact hb
    rw [hL] at hx
    obtain ⟨k1, k2, k3, k4⟩ := put_still hD h0 hb' hx ht
    have c : x ∉ keysN l := fun c => k1 (List.mem_append_right _ ((hkl x).1 c))
    show mkS p.S (keysN l) x = stv (putFD D l).L x
    unfold mkS
    rw [if_neg c, hL, k4]
    exact h.sts hb' x k2 k3
  · show p.st = (putFD D l).steps
    rw [hput]
    exact h.st
theorem LI.putNo (h : LI D p) {T : FT} {Ff : Nat → Prop} (hW : WF T) (hT : ∀ x, parO T x = parO p.T x) : LI D (wT p T Ff) :=
  ⟨hW, fun x => (hT x).trans (h.par x), h.nod, h.mrk, h.non, h.sts, h.st⟩
/-! dropping -/
theorem drop_still (hD : DOk D) {x : Int} (hb : D.begun = true) {z : Int} (hz : (elF Nd.id (D.L.filter (fun m => m.id != x)) z).isSome = true)
    (ht : z ∉ touchN { D with L := D.L.filter (fun m => m.id != x), dirty := D.dirty ++ (D.L.filter (fun n => hangs D.L n.id == x)).map Nd.id }) :
    z ∉ D.dirty ++ (D.L.filter (fun n => hangs D.L n.id == x)).map Nd.id ∧ (elF Nd.id D.L z).isSome = true ∧ z ∉ touchN D ∧ stv (D.L.filter (fun m => m.id != x)) z = stv D.L z := by
  have hn' : ((D.L.filter (fun m => m.id != x)).map Nd.id).Nodup := hD.nod.sublist (List.Sublist.map _ List.filter_sublist)
  have hW' := wf_cut hD.nod hD.wf x
  have hsub : ∀ n ∈ D.L.filter (fun m => m.id != x), n ∈ D.L := fun n hn => (List.mem_filter.1 hn).1
  refine still_same (D := D) (D' := { D with L := D.L.filter (fun m => m.id != x), dirty := D.dirty ++ (D.L.filter (fun n => hangs D.L n.id == x)).map Nd.id }) hD hn' hW' rfl (fun z hz => List.mem_append_left _ hz) (fun y _ hs => ?_) (fun y hy hs _ => ?_) hb hz ht
  · obtain ⟨n, hn, e⟩ := el_isSome.1 hs
    have hne : y ≠ x := by
      have := (List.mem_filter.1 hn).2
      rw [← e]
      simpa using this
    exact el_ext hD.nod (fun m hm => by
      rw [List.mem_filter]
      exact ⟨And.left, fun q => ⟨q, by simp [hm, hne]⟩⟩)
  · obtain ⟨n, hn, e⟩ := el_isSome.1 hs
    have hne : y ≠ x := by
      have := (List.mem_filter.1 hn).2
      rw [← e]
      simpa using this
    rcases hangs_cut hD.nod hne with q | q
    · exact q
    · exact absurd (List.mem_append_right _ (List.mem_map.2 ⟨n, List.mem_filter.2 ⟨hsub n hn, by simp [e, q.2]⟩, e⟩)) hy
def dropP (p : Wp) (x : Int) (Ff : Nat → Prop) : Wp := { p with T := freeF p.T x, Ff := Ff, N := upm p.N x none, S := upm (mkS p.S (chF p.T x)) x none, M := upm (mkM p.M (chF p.T x)) x none }
theorem LI.hangers (hD : DOk D) (h : LI D p) {x : Int} (hx : (elF Nd.id D.L x).isSome = true) (z : Int) : z ∈ chF p.T x ↔ z ∈ (D.L.filter (fun n => hangs D.L n.id == x)).map Nd.id := by
  have h0 : 0 ≤ x := by
    obtain ⟨n, hn, e⟩ := el_isSome.1 hx
    rw [← e]
    exact hD.nn n hn
  rw [h.chd hD hx, mem_chF hD.wf.1, par_trees hD.nod, List.mem_map]
  constructor
  · intro q
    by_cases c : 0 ≤ hangs D.L z
    · rw [if_pos c] at q
      injection q with q
      obtain ⟨n, hn, e⟩ := hangs_in c
      exact ⟨n, List.mem_filter.2 ⟨hn, by rw [e, q]; simp⟩, e⟩
    · rw [if_neg c] at q; cases q
  · rintro ⟨n, hn, rfl⟩
    have := (List.mem_filter.1 hn).2
    have e : hangs D.L n.id = x := by simpa using this
    rw [e, if_pos h0]
theorem LI.drop (hD : DOk D) (h : LI D p) {x : Int} (hx : dropFB D x = true) (Ff : Nat → Prop) : LI (dropFD D x) (dropP p x Ff) := by
  have hdr : dropFD D x = { D with L := D.L.filter (fun m => m.id != x), dirty := D.dirty ++ (D.L.filter (fun n => hangs D.L n.id == x)).map Nd.id } := by unfold dropFD; rw [if_pos hx]
  have hx' : (elF Nd.id D.L x).isSome = true := hx
  have hhg := h.hangers hD hx'
  have hn' : ((D.L.filter (fun m => m.id != x)).map Nd.id).Nodup := hD.nod.sublist (List.Sublist.map _ List.filter_sublist)
  have hel : ∀ z, z ≠ x → elF Nd.id (D.L.filter (fun m => m.id != x)) z = elF Nd.id D.L z := fun z hz => el_ext hD.nod (fun m hm => by
    rw [List.mem_filter]
    exact ⟨And.left, fun q => ⟨q, by simp [hm, hz]⟩⟩)
  have hxn : elF Nd.id (D.L.filter (fun m => m.id != x)) x = none := el_none.2 (fun m hm => by
    have := (List.mem_filter.1 hm).2
    simpa using this)
  rw [hdr]
  refine ⟨h.wf.free x, fun z => ?_, fun z => ?_, fun z => ?_, fun z hz => ?_, fun hb z hz ht => ?_, h.st⟩
  · show parO (freeF p.T x) z = parO (rawT (D.L.filter (fun m => m.id != x))) z
    rw [par_free]
    by_cases c : z = x
    · rw [if_pos c, c, raw_none hxn]
    · rw [if_neg c, h.par]
      cases q : elF Nd.id D.L z with
      | none => rw [raw_none q, raw_none ((hel z c).trans q)]
      | some n => rw [raw_some hD.nod q, raw_some hn' ((hel z c).trans q)]
  · show upm p.N x none z = (elF Nd.id (D.L.filter (fun m => m.id != x)) z).map _
    unfold upm
    by_cases c : z = x
    · rw [if_pos c, c, hxn]; rfl
    · rw [if_neg c, hel z c, h.nod]
  · show (upm (mkM p.M (chF p.T x)) x none z).isSome = true ↔ (elF Nd.id (D.L.filter (fun m => m.id != x)) z).isSome = true ∧ (D.begun = true → z ∈ D.dirty ++ (D.L.filter (fun n => hangs D.L n.id == x)).map Nd.id)
    unfold upm
    by_cases c : z = x
    · rw [if_pos c, c, hxn]
      simp
    · rw [if_neg c, hel z c]
      unfold mkM
      by_cases d : z ∈ chF p.T x
      · rw [if_pos d]
        have d2 := (hhg z).1 d
        obtain ⟨n, hn, e⟩ := List.mem_map.1 d2
        exact ⟨fun _ => ⟨el_isSome.2 ⟨n, (List.mem_filter.1 hn).1, e⟩, fun _ => List.mem_append_right _ d2⟩, fun _ => rfl⟩
      · rw [if_neg d, h.mrk]
        exact ⟨fun q => ⟨q.1, fun b => List.mem_append_left _ (q.2 b)⟩, fun q => ⟨q.1, fun b => (List.mem_append.1 (q.2 b)).elim id (fun k => absurd ((hhg z).2 k) d)⟩⟩
  · have hz' : elF Nd.id (D.L.filter (fun m => m.id != x)) z = none := hz
    show upm (mkS p.S (chF p.T x)) x none z = none
    unfold upm
    by_cases c : z = x
    · rw [if_pos c]
    · rw [if_neg c]
      unfold mkS
      by_cases d : z ∈ chF p.T x
      · rw [if_pos d]
      · rw [if_neg d]
        exact h.non z ((hel z c).symm.trans hz')
  · obtain ⟨k1, k2, k3, k4⟩ := drop_still hD hb hz ht
    have hzx : z ≠ x := fun c => by
      have hz' : (elF Nd.id (D.L.filter (fun m => m.id != x)) z).isSome = true := hz
      rw [c, hxn] at hz'
      cases hz'
    show upm (mkS p.S (chF p.T x)) x none z = stv (D.L.filter (fun m => m.id != x)) z
    unfold upm
    rw [if_neg hzx]
    unfold mkS
    rw [if_neg (fun d => k1 (List.mem_append_right _ ((hhg z).1 d))), k4]
    exact h.sts hb z k2 k3
/-! running -/
def runP (p : Wp) (S : Int → Option RD) (M : Int → Option Unit) (s : Nat) : Wp := { p with S := S, M := M, st := s }
theorem LI.runOk (hD : DOk D) (h : LI D p) (h0 : runE D = 0) : LI (runD D) (runP p (remS D.L (touchN D) p.S (touchN D).length) (fun _ => none) (p.st + (touchN D).length)) := by
  have hb : (runD D).begun = true := decide_eq_true h0
  refine ⟨h.wf, h.par, h.nod, fun x => ?_, fun x hx => ?_, fun _ x hx ht => ?_, ?_⟩
  · show (none : Option Unit).isSome = true ↔ _ ∧ ((runD D).begun = true → x ∈ ([] : List Int))
    rw [hb]
    simp
  · show remS D.L (touchN D) p.S (touchN D).length x = none
    have hx' : elF Nd.id D.L x = none := hx
    unfold remS
    rw [if_neg (fun c => by have := touch_node hD.wf c; rw [hx'] at this; cases this)]
    exact h.non x hx'
  · show remS D.L (touchN D) p.S (touchN D).length x = stv D.L x
    unfold remS
    rw [List.take_length]
    by_cases c : x ∈ touchN D
    · rw [if_pos c, if_pos c]
    · rw [if_neg c]
      by_cases hb0 : D.begun = true
      · exact h.sts hb0 x hx c
      · refine absurd ((mem_touch hD.wf).2 ⟨x, ?_, Or.inl rfl⟩) c
        unfold dirtyN
        rw [if_neg hb0]
        exact mem_names.2 hx
  · show p.st + (touchN D).length = D.steps + (touchN D).length
    rw [h.st]
theorem LI.runNo (hD : DOk D) (h : LI D p) (h0 : runE D ≠ 0) (n : Nat) : LI (runD D) (runP p (mkS (remS D.L (touchN D) p.S n) (namesN D.L)) (mkM p.M (namesN D.L)) (p.st + (touchN D).length)) := by
  have hb : (runD D).begun = false := decide_eq_false h0
  refine ⟨h.wf, h.par, h.nod, fun x => ?_, fun x hx => ?_, fun b => (by rw [hb] at b; cases b), ?_⟩
  · show (mkM p.M (namesN D.L) x).isSome = true ↔ (elF Nd.id D.L x).isSome = true ∧ ((runD D).begun = true → _)
    rw [hb]
    unfold mkM
    by_cases c : x ∈ namesN D.L
    · rw [if_pos c]
      exact ⟨fun _ => ⟨mem_names.1 c, fun b => (by cases b)⟩, fun _ => rfl⟩
    · rw [if_neg c, h.mrk]
      exact ⟨fun q => absurd (mem_names.2 q.1) c, fun q => absurd (mem_names.2 q.1) c⟩
  · have hx' : elF Nd.id D.L x = none := hx
    show mkS (remS D.L (touchN D) p.S n) (namesN D.L) x = none
    unfold mkS
    by_cases c : x ∈ namesN D.L
    · rw [if_pos c]
    · rw [if_neg c]
      unfold remS
      rw [if_neg (fun c => by have := touch_node hD.wf c; rw [hx'] at this; cases this)]
      exact h.non x hx'
  · show p.st + (touchN D).length = D.steps + (touchN D).length
    rw [h.st]
/-! what State answers -/
theorem LI.state (hD : DOk D) (h : LI D p) (x : Int) : (stL p x).2 = (stateN D x).isSome ∧ cFs (stL p x).1.1 = cFs ((stateN D x).getD zSt) := by
  unfold stL stateN
  rw [h.dirty hD]
  by_cases hn : (elF Nd.id D.L x).isSome = true
  · by_cases ht : x ∈ touchN D
    · rw [if_pos (decide_eq_true ht), if_neg (fun q => q.2.1 ht)]
      exact ⟨rfl, rfl⟩
    · have hb : D.begun = true := by
        by_cases hb : D.begun = true
        · exact hb
        · refine absurd ((mem_touch hD.wf).2 ⟨x, ?_, Or.inl rfl⟩) ht
          unfold dirtyN
          rw [if_neg hb]
          exact mem_names.2 hn
      rw [if_neg (by simpa using ht), if_pos ⟨hb, ht, hn⟩]
      obtain ⟨s, h1, h2⟩ := hD.st hb x hn ht
      have h3 := h.sts hb x hn ht
      have h4 : stv D.L x = some (s, (abv (treesN D.L) x).length + 1) := by unfold stv; rw [h1]; rfl
      rw [h3, h4, h2]
      exact ⟨rfl, rfl⟩
  · have ht : x ∉ touchN D := fun c => hn (touch_node hD.wf c)
    have hx : elF Nd.id D.L x = none := by
      cases q : elF Nd.id D.L x with
      | none => rfl
      | some n => rw [q] at hn; exact absurd rfl hn
    rw [if_neg (by simpa using ht), if_neg (fun q => hn q.2.2), h.non x hx]
    exact ⟨rfl, rfl⟩
theorem LI.zero {p : Wp} (hT : p.T = []) (hN : p.N = fun _ => none) (hS : p.S = fun _ => none) (hM : p.M = fun _ => none) (hs : p.st = 0) : LI FD0 p := by
  refine ⟨by rw [hT]; exact WF.nil, fun x => (by rw [hT]; rfl), fun x => (by rw [hN]; rfl), fun x => ?_, fun x _ => (by rw [hS]), fun b => (by cases b), hs⟩
  rw [hM]
  exact ⟨fun q => (by cases q), fun q => (by cases q.1)⟩
end
end Go.Proofs.YtdndafdninnjfaaGreat
