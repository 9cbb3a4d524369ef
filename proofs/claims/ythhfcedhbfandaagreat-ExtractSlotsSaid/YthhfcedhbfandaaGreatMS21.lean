/-
  5 texts in one file, each with its own heading.
-/
import Derived.Test.YthhfcedhbfandaaGreatMS20
import Derived.Test.YthhfcedhbfandaaGreatMS15
import Derived.Test.YthhfcedhbfandaaGreatMS08
import Derived.Test.YthhfcedhbfandaaGreatMS07
import Derived.Test.YthhfcedhbfandaaGreatMS03
import Derived.Deep.MidRow
import Derived.Deep.Cut
import Derived.Deep.CutRange
/-
  The reference's store: what its New and Touch of layer 8 answer.
-/
namespace Go.Proofs.YthhfcedhbfandaaGreat
open Go.RowKit

theorem live_to (S : St) (x y : Int) : liveS (to1 S x) y = liveS S y := by unfold to1; split <;> rfl
theorem live_tos : ∀ (l : List Int) (S : St) (y : Int), liveS (toS S l) y = liveS S y
  | [], _, _ => rfl
  | x :: l, S, y => (live_tos l (to1 S x) y).trans (live_to S x y)
structure Sc where
  S : St
  L : FT
def Sc0 (r : Nat) : Sc := ⟨St0 r, []⟩
def noP (S : St) (p : Int) : Bool := decide (0 ≤ p) && !liveS S p
def xspE (X : Sc) (P : PT) (p : Int) : Int := if noP X.S p then 4 else spE X.S P
def xspV (X : Sc) (P : PT) (p : Int) : Int := if noP X.S p then 0 else spV X.S P
def xspS (X : Sc) (P : PT) (p : Int) : Sc := if noP X.S p then X else ⟨spS X.S P, if spE X.S P = 0 ∧ 0 ≤ p then setS9 X.L (spV X.S P) p else X.L⟩
def xdeS (X : Sc) (id : Int) : Sc := if deE X.S id = 0 then ⟨toS (deS X.S id) (chF X.L id), dropF X.L id⟩ else X
def xpuS (X : Sc) (id : Int) (Q : PT) (ks : List Int) : Sc := ⟨puS X.S id Q ks, X.L⟩
def xcuS (X : Sc) (id : Int) (ks : List Int) : Sc := ⟨cuS X.S id ks, X.L⟩
def xadE (X : Sc) (c p : Int) : Int := if liveS X.S c && liveS X.S p then fsetE X.L c p else 4
def xadS (X : Sc) (c p : Int) : Sc := if xadE X c p = 0 then ⟨toS X.S [c], setS9 X.L c p⟩ else X
def xfrE (X : Sc) (c : Int) : Int := if liveS X.S c then 0 else 4
def xfrS (X : Sc) (c : Int) : Sc := if liveS X.S c then ⟨if (parO X.L c).isSome then toS X.S [c] else X.S, freeF X.L c⟩ else X
def xneS (X : Sc) : Sc := ⟨neS X.S, X.L⟩
def nodeX (X : Sc) (id : Int) : Nd := if getB X.S id then ⟨id, (parO X.L id).getD (-1), if hasB (getP X.S id).1 0 then (getP X.S id).2.1 else sameM, hasB (getP X.S id).1 4⟩ else ⟨0, 0, fun _ => 0, false⟩

theorem mem_free9 {L : FT} {x : Int} {q : Int × Int} : q ∈ freeF L x ↔ q ∈ L ∧ q.1 ≠ x := by
  unfold freeF
  rw [List.mem_filter]
  simp
theorem mem_frees : ∀ (xs : List Int) {L : FT} {q : Int × Int}, q ∈ freeS L xs ↔ q ∈ L ∧ q.1 ∉ xs
  | [], L, q => by unfold freeS; simp
  | x :: xs, L, q => by
    show q ∈ freeS (freeF L x) xs ↔ _
    rw [mem_frees xs, mem_free9, List.mem_cons, not_or, and_assoc]
theorem mem_drop9 {L : FT} (hn : (L.map Prod.fst).Nodup) {x : Int} {q : Int × Int} (h : q ∈ dropF L x) : q ∈ L ∧ q.1 ≠ x ∧ q.2 ≠ x := by
  unfold dropF at h
  obtain ⟨h1, h2⟩ := (mem_frees _).1 h
  obtain ⟨h3, h4⟩ := mem_free9.1 h1
  refine ⟨h3, h4, fun e => h2 ?_⟩
  obtain ⟨a, b⟩ := q
  rw [mem_chF hn]
  rw [par_of_mem hn h3]
  exact congrArg some e
theorem par_freesX : ∀ (xs : List Int) (L : FT) (z : Int), parO (freeS L xs) z = if z ∈ xs then none else parO L z
  | [], L, z => by unfold freeS; simp
  | x :: xs, L, z => by
    show parO (freeS (freeF L x) xs) z = _
    rw [par_freesX xs, par_free]
    by_cases c1 : z ∈ xs
    · rw [if_pos c1, if_pos (List.mem_cons_of_mem _ c1)]
    · rw [if_neg c1]
      by_cases c2 : z = x
      · rw [if_pos c2, if_pos (by rw [c2]; exact List.mem_cons_self)]
      · rw [if_neg c2, if_neg (fun m => (List.mem_cons.1 m).elim c2 c1)]
theorem par_drop {L : FT} (x z : Int) : parO (dropF L x) z = if z ∈ chF L x ∨ z = x then none else parO L z := by
  unfold dropF
  rw [par_freesX, par_free]
  by_cases c1 : z ∈ chF L x
  · rw [if_pos c1, if_pos (Or.inl c1)]
  · rw [if_neg c1]
    by_cases c2 : z = x
    · rw [if_pos c2, if_pos (Or.inr c2)]
    · rw [if_neg c2, if_neg (fun m => m.elim c1 c2)]
theorem filter_or_len {α : Type} (p q : α → Bool) (l : List α) (h : ∀ x ∈ l, p x = true → q x = false) : (l.filter p).length + (l.filter q).length ≤ l.length := by
  induction l with
  | nil => simp
  | cons a l ih =>
    have h2 := ih (fun x hx => h x (List.mem_cons_of_mem _ hx))
    have h3 := h a List.mem_cons_self
    cases c1 : p a with
    | true => rw [List.filter_cons_of_pos c1, List.filter_cons_of_neg (by rw [h3 c1]; decide), List.length_cons, List.length_cons]; omega
    | false =>
      rw [List.filter_cons_of_neg (by rw [c1]; decide)]
      cases c2 : q a with
      | true => rw [List.filter_cons_of_pos c2, List.length_cons, List.length_cons]; omega
      | false => rw [List.filter_cons_of_neg (by rw [c2]; decide), List.length_cons]; omega
theorem frees_filter : ∀ (xs : List Int) (L : FT), freeS L xs = L.filter (fun q => !decide (q.1 ∈ xs))
  | [], L => by
    rw [List.filter_eq_self.2 (fun q _ => by simp)]
    rfl
  | x :: xs, L => by
    show freeS (freeF L x) xs = _
    rw [frees_filter xs]
    unfold freeF
    rw [List.filter_filter]
    refine List.filter_congr (fun q _ => ?_)
    by_cases c : q.1 = x <;> simp [c]
theorem drop_len9 {L : FT} (hn : (L.map Prod.fst).Nodup) (x : Int) : (chF L x).length + (dropF L x).length ≤ L.length := by
  have e1 : (chF L x).length = (L.filter (fun p => p.2 == x)).length := by unfold chF; rw [sort_len, List.length_map]
  have e2 : (dropF L x).length ≤ (L.filter (fun q => !decide (q.1 ∈ chF L x))).length := by
    unfold dropF
    rw [frees_filter]
    unfold freeF
    rw [List.filter_filter]
    have e3 : L.filter (fun q => !decide (q.1 ∈ chF L x) && (q.1 != x)) = (L.filter (fun q => !decide (q.1 ∈ chF L x))).filter (fun q => q.1 != x) := by
      rw [List.filter_filter]
      exact List.filter_congr (fun q _ => Bool.and_comm _ _)
    rw [e3]
    exact List.length_filter_le _ _
  rw [e1]
  refine Nat.le_trans (Nat.add_le_add_left e2 _) (filter_or_len _ _ L (fun q hq h => ?_))
  have : q.1 ∈ chF L x := by
    rw [mem_chF hn, par_of_mem hn (show (q.1, q.2) ∈ L from hq)]
    exact congrArg some (by simpa using h)
  simp [this]
theorem set_len9 (L : FT) (c p : Int) : (setS9 L c p).length ≤ L.length + 1 := by
  unfold setS9
  split
  · unfold setF
    rw [List.length_append]
    have := free_len L c
    simp
    exact this
  · omega
theorem mem_set9 {L : FT} {c p : Int} {q : Int × Int} (h : q ∈ setS9 L c p) : q ∈ L ∨ q = (c, p) := by
  unfold setS9 at h
  split at h
  · unfold setF at h
    rcases List.mem_append.1 h with m | m
    · exact Or.inl (mem_free9.1 m).1
    · exact Or.inr (by simpa using m)
  · exact Or.inl h
theorem par_set9 {L : FT} {c p z : Int} (hz : z ≠ c) : parO (setS9 L c p) z = parO L z := by
  unfold setS9
  split
  · rw [par_set, if_neg hz]
  · rfl
def CH (since : Int) (S : St) (x : Int) : Prop := ∃ t, (x, t) ∈ S.ch ∧ since < t
theorem live_in {S : St} (h : WS S) {x : Int} : liveS S x = getB S x := by
  rw [Bool.eq_iff_iff, getB_iff]
  exact h.live x
theorem live_sp {S : St} (h : WS S) {P : PT} (he : spE S P = 0) (x : Int) : liveS (spS S P) x = true ↔ liveS S x = true ∨ x = spV S P := by
  obtain ⟨w1, w2, w3⟩ := ws_spawn h he
  rw [w1.live, h.live]
  constructor
  · rintro ⟨Q, hQ⟩
    rcases (w3 x Q).1 hQ with ⟨a, _⟩ | ⟨a, _⟩
    · exact Or.inl ⟨Q, a⟩
    · exact Or.inr a
  · rintro (⟨Q, hQ⟩ | e)
    · refine ⟨Q, (w3 x Q).2 (Or.inl ⟨hQ, fun e => ?_⟩)⟩
      have : liveS S x = true := (h.live x).2 ⟨Q, hQ⟩
      rw [e, w2] at this
      cases this
    · exact ⟨P, (w3 x P).2 (Or.inr ⟨e, rfl⟩)⟩
theorem live_lay {S : St} (h : WS S) {id : Int} {i : Nat} (ha : atS S id = some i) {P : PT} (hr : rightT P = true) (x : Int) : liveS (layS S id P) x = liveS S x := by
  obtain ⟨w1, w2⟩ := ws_lay h ha hr
  have hl : ∃ P, inS S id P := getB_iff.1 (by unfold getB; rw [ha]; rfl)
  rw [Bool.eq_iff_iff, w1.live, h.live]
  constructor
  · rintro ⟨Q, hQ⟩
    rcases (w2 x Q).1 hQ with ⟨a, _⟩ | ⟨a, _⟩
    · exact ⟨Q, a⟩
    · rw [a]; exact hl
  · rintro ⟨Q, hQ⟩
    by_cases c : x = id
    · exact ⟨P, (w2 x P).2 (Or.inr ⟨c, rfl⟩)⟩
    · exact ⟨Q, (w2 x Q).2 (Or.inl ⟨hQ, c⟩)⟩
theorem live_pu {S : St} (h : WS S) (id : Int) (Q : PT) (ks : List Int) (x : Int) : liveS (puS S id Q ks) x = liveS S x := by
  unfold puS
  split
  · rename_i he
    obtain ⟨i, ha, hr⟩ := pu_at he
    exact live_lay h ha hr x
  · rfl
theorem live_cu {S : St} (h : WS S) (id : Int) (ks : List Int) (x : Int) : liveS (cuS S id ks) x = liveS S x := by
  unfold cuS
  split
  · rename_i he
    obtain ⟨i, ha, hr⟩ := cu_at he
    exact live_lay h ha hr x
  · rfl
theorem de_at {S : St} {id : Int} (he : deE S id = 0) : ∃ i, atS S id = some i := by
  unfold deE getB at he
  cases c : atS S id with
  | none => rw [c] at he; exact absurd he (by decide)
  | some i => exact ⟨i, rfl⟩
theorem de_no {S : St} {id : Int} (he : deE S id ≠ 0) : deS S id = S := by
  unfold deE getB at he
  unfold deS
  cases c : atS S id with
  | none => rfl
  | some i => rw [c] at he; exact absurd rfl he
theorem live_de {S : St} (h : WS S) {id : Int} (he : deE S id = 0) (x : Int) : liveS (deS S id) x = true ↔ liveS S x = true ∧ x ≠ id := by
  obtain ⟨i, ha⟩ := de_at he
  obtain ⟨w1, w2⟩ := ws_despawn h ha
  rw [w1.live, h.live]
  constructor
  · rintro ⟨Q, hQ⟩
    exact ⟨⟨Q, ((w2 x Q).1 hQ).1⟩, ((w2 x Q).1 hQ).2⟩
  · rintro ⟨⟨Q, hQ⟩, c⟩
    exact ⟨Q, (w2 x Q).2 ⟨hQ, c⟩⟩
theorem ws_told {S : St} (h : WS S) : Told (fun _ => True) (fun x P => inS S x P) (S.now - 1) S := ⟨h, by omega, fun _ _ c => Or.inl c, fun _ P c => Or.inl ⟨P, c⟩⟩
theorem ws_to {S : St} (h : WS S) (l : List Int) : WS (toS S l) := (Told.to l (ws_told h)).ws
theorem ws_de {S : St} (h : WS S) (id : Int) : WS (deS S id) := ((ws_told h).de id).ws
theorem ws_sp {S : St} (h : WS S) (P : PT) : WS (spS S P) := ((ws_told h).spawn P).ws
theorem ws_pu {S : St} (h : WS S) (id : Int) (Q : PT) (ks : List Int) : WS (puS S id Q ks) := ((ws_told h).pu id Q ks).ws
theorem ws_cu {S : St} (h : WS S) (id : Int) (ks : List Int) : WS (cuS S id ks) := ((ws_told h).cu id ks).ws
theorem ws_ne {S : St} (h : WS S) : WS (neS S) := ((ws_told h).ne).ws
theorem ch_sp {S : St} {since : Int} (hn : since < S.now) (P : PT) {x : Int} (h : CH since S x) : CH since (spS S P) x := by
  obtain ⟨t, h1, h2⟩ := h
  unfold spS
  split
  · exact mark_mem h1 h2 hn
  · exact ⟨t, h1, h2⟩
theorem ch_spn {S : St} {since : Int} (hn : since < S.now) {P : PT} (he : spE S P = 0) : CH since (spS S P) (spV S P) := by
  refine ⟨S.now, ?_, hn⟩
  unfold spS spV
  rw [if_pos he, if_pos he]
  exact mark_new _ _ _
theorem ch_lay {S : St} {since : Int} (hn : since < S.now) (id : Int) (P : PT) {x : Int} (h : CH since S x) : CH since (layS S id P) x := by
  obtain ⟨t, h1, h2⟩ := h
  unfold layS
  split
  · exact mark_mem h1 h2 hn
  · exact ⟨t, h1, h2⟩
theorem ch_pu {S : St} {since : Int} (hn : since < S.now) (id : Int) (Q : PT) (ks : List Int) {x : Int} (h : CH since S x) : CH since (puS S id Q ks) x := by
  unfold puS
  split
  · exact ch_lay hn _ _ h
  · exact h
theorem ch_cu {S : St} {since : Int} (hn : since < S.now) (id : Int) (ks : List Int) {x : Int} (h : CH since S x) : CH since (cuS S id ks) x := by
  unfold cuS
  split
  · exact ch_lay hn _ _ h
  · exact h
theorem ch_de {S : St} {since : Int} (id : Int) {x : Int} (h : CH since S x) : CH since (deS S id) x := by
  obtain ⟨t, h1, h2⟩ := h
  unfold deS
  split <;> exact ⟨t, h1, h2⟩
theorem ch_to1 {S : St} {since : Int} (hn : since < S.now) (y : Int) {x : Int} (h : CH since S x) : CH since (to1 S y) x := by
  obtain ⟨t, h1, h2⟩ := h
  unfold to1
  split
  · exact mark_mem h1 h2 hn
  · exact ⟨t, h1, h2⟩
theorem now_to1 (S : St) (x : Int) : (to1 S x).now = S.now := by unfold to1; split <;> rfl
theorem ch_to : ∀ (l : List Int) {S : St} {since : Int}, since < S.now → ∀ {x : Int}, CH since S x → CH since (toS S l) x
  | [], _, _, _, _, h => h
  | y :: l, S, since, hn, x, h => ch_to l (S := to1 S y) (by rw [now_to1]; exact hn) (ch_to1 hn y h)
theorem ch_ton : ∀ (l : List Int) {S : St} {since : Int}, since < S.now → ∀ {x : Int}, x ∈ l → liveS S x = true → CH since (toS S l) x
  | [], _, _, _, _, h, _ => by cases h
  | y :: l, S, since, hn, x, h, hl => by
    show CH since (toS (to1 S y) l) x
    rcases List.mem_cons.1 h with e | m
    · refine ch_to l (by rw [now_to1]; exact hn) ?_
      subst e
      unfold to1
      rw [if_pos hl]
      exact ⟨S.now, mark_new _ _ _, hn⟩
    · exact ch_ton l (by rw [now_to1]; exact hn) m (by rw [live_to]; exact hl)
theorem now_de (S : St) (id : Int) : (deS S id).now = S.now := by unfold deS; split <;> rfl
structure WX (X : Sc) : Prop where
  ws : WS X.S
  wf : WF X.L
  kid : ∀ q ∈ X.L, liveS X.S q.1 = true ∧ liveS X.S q.2 = true
theorem noP_no {S : St} {p : Int} (h : noP S p = false) (hp : 0 ≤ p) : liveS S p = true := by
  unfold noP at h
  rw [decide_eq_true hp] at h
  simpa using h
theorem WX.zero {r : Nat} (h : r ≤ 256) : WX (Sc0 r) := ⟨ws_zero h, WF.nil, fun q hq => by cases hq⟩
theorem WX.sp {X : Sc} (h : WX X) (P : PT) (p : Int) : WX (xspS X P p) := by
  unfold xspS
  by_cases c : noP X.S p = true
  · rw [if_pos c]; exact h
  · rw [if_neg c]
    by_cases he : spE X.S P = 0
    · refine ⟨ws_sp h.ws P, ?_, ?_⟩
      · show WF (if spE X.S P = 0 ∧ 0 ≤ p then _ else _)
        split
        · exact h.wf.set9 _ _
        · exact h.wf
      · show ∀ q ∈ (if spE X.S P = 0 ∧ 0 ≤ p then _ else _), _
        have hk : ∀ q ∈ X.L, liveS (spS X.S P) q.1 = true ∧ liveS (spS X.S P) q.2 = true := fun q hq => ⟨(live_sp h.ws he _).2 (Or.inl (h.kid q hq).1), (live_sp h.ws he _).2 (Or.inl (h.kid q hq).2)⟩
        split
        · rename_i hh
          intro q hq
          rcases mem_set9 hq with m | m
          · exact hk q m
          · subst m
            exact ⟨(live_sp h.ws he _).2 (Or.inr rfl), (live_sp h.ws he _).2 (Or.inl (noP_no (by simpa using c) hh.2))⟩
        · exact hk
    · have e : spS X.S P = X.S := by unfold spS; rw [if_neg he]
      rw [if_neg (fun hh => he hh.1), e]
      exact h
theorem WX.de {X : Sc} (h : WX X) (id : Int) : WX (xdeS X id) := by
  unfold xdeS
  by_cases he : deE X.S id = 0
  · rw [if_pos he]
    refine ⟨ws_to (ws_de h.ws id) _, h.wf.drop id, fun q hq => ?_⟩
    obtain ⟨h1, h2, h3⟩ := mem_drop9 h.wf.1 hq
    obtain ⟨k1, k2⟩ := h.kid q h1
    show liveS (toS (deS X.S id) _) _ = true ∧ liveS (toS (deS X.S id) _) _ = true
    rw [live_tos, live_tos]
    exact ⟨(live_de h.ws he _).2 ⟨k1, h2⟩, (live_de h.ws he _).2 ⟨k2, h3⟩⟩
  · rw [if_neg he]; exact h
theorem WX.pu {X : Sc} (h : WX X) (id : Int) (Q : PT) (ks : List Int) : WX (xpuS X id Q ks) := ⟨ws_pu h.ws id Q ks, h.wf, fun q hq => by
  show liveS (puS X.S id Q ks) _ = true ∧ liveS (puS X.S id Q ks) _ = true
  rw [live_pu h.ws, live_pu h.ws]; exact h.kid q hq⟩
theorem WX.cu {X : Sc} (h : WX X) (id : Int) (ks : List Int) : WX (xcuS X id ks) := ⟨ws_cu h.ws id ks, h.wf, fun q hq => by
  show liveS (cuS X.S id ks) _ = true ∧ liveS (cuS X.S id ks) _ = true
  rw [live_cu h.ws, live_cu h.ws]; exact h.kid q hq⟩
theorem ad_live {X : Sc} {c p : Int} (h : xadE X c p = 0) : liveS X.S c = true ∧ liveS X.S p = true ∧ fsetE X.L c p = 0 := by
  unfold xadE at h
  by_cases q : (liveS X.S c && liveS X.S p) = true
  · rw [if_pos q] at h
    rw [Bool.and_eq_true] at q
    exact ⟨q.1, q.2, h⟩
  · rw [if_neg q] at h; exact absurd h (by decide)
theorem WX.ad {X : Sc} (h : WX X) (c p : Int) : WX (xadS X c p) := by
  unfold xadS
  by_cases he : xadE X c p = 0
  · rw [if_pos he]
    obtain ⟨l1, l2, _⟩ := ad_live he
    refine ⟨ws_to h.ws _, h.wf.set9 _ _, fun q hq => ?_⟩
    show liveS (toS X.S [c]) _ = true ∧ liveS (toS X.S [c]) _ = true
    rw [live_tos, live_tos]
    rcases mem_set9 hq with m | m
    · exact h.kid q m
    · subst m; exact ⟨l1, l2⟩
  · rw [if_neg he]; exact h
theorem WX.fr {X : Sc} (h : WX X) (c : Int) : WX (xfrS X c) := by
  unfold xfrS
  by_cases he : liveS X.S c = true
  · rw [if_pos he]
    refine ⟨?_, h.wf.free c, fun q hq => ?_⟩
    · show WS (if (parO X.L c).isSome then toS X.S [c] else X.S)
      split
      · exact ws_to h.ws _
      · exact h.ws
    · have hk := h.kid q (mem_free9.1 hq).1
      show liveS (if (parO X.L c).isSome then toS X.S [c] else X.S) _ = true ∧ liveS (if (parO X.L c).isSome then toS X.S [c] else X.S) _ = true
      split
      · rw [live_tos, live_tos]; exact hk
      · exact hk
  · rw [if_neg he]; exact h
theorem WX.ne {X : Sc} (h : WX X) : WX (xneS X) := ⟨ws_ne h.ws, h.wf, h.kid⟩

def BSc (X : Sc) (m : Nat) : Prop := X.S.ch.length + X.L.length ≤ m ∧ X.S.go.length ≤ m ∧ (∀ i, i < 32 → (X.S.T i).length ≤ m) ∧ 0 < X.S.now ∧ X.S.now ≤ m + 1 ∧ X.S.room ≤ 256
theorem BSc.bd {X : Sc} {m : Nat} (h : BSc X m) : Bd X.S m := ⟨by have := h.1; omega, h.2.1, h.2.2.1, h.2.2.2.1, h.2.2.2.2.1, h.2.2.2.2.2⟩
theorem BSc.len {X : Sc} {m : Nat} (h : BSc X m) : X.L.length ≤ m := by have := h.1; omega
theorem BSc.mono {X : Sc} {m m' : Nat} (h : BSc X m) (hm : m ≤ m') : BSc X m' := ⟨Nat.le_trans h.1 hm, Nat.le_trans h.2.1 hm, fun i hi => Nat.le_trans (h.2.2.1 i hi) hm, h.2.2.2.1, by have := h.2.2.2.2.1; omega, h.2.2.2.2.2⟩
theorem BSc.zero {r : Nat} (h : r ≤ 256) : BSc (Sc0 r) 0 := ⟨Nat.le_refl _, Nat.le_refl _, fun _ _ => Nat.le_refl _, by show (0 : Int) < 1; omega, by show (1 : Int) ≤ _; omega, h⟩
theorem BSc.of {X : Sc} {m k : Nat} (h : Bd X.S m) (hl : X.S.ch.length + X.L.length ≤ k) (hm : m ≤ k) : BSc X k := ⟨hl, Nat.le_trans h.2.1 hm, fun i hi => Nat.le_trans (h.2.2.1 i hi) hm, h.2.2.2.1, by have := h.2.2.2.2.1; omega, h.2.2.2.2.2⟩
theorem to_ch : ∀ (l : List Int) (S : St), (toS S l).ch.length ≤ S.ch.length + l.length ∧ (toS S l).go = S.go ∧ (toS S l).T = S.T ∧ (toS S l).now = S.now ∧ (toS S l).room = S.room
  | [], S => ⟨Nat.le_refl _, rfl, rfl, rfl, rfl⟩
  | x :: l, S => by
    obtain ⟨a, b, c, d, e⟩ := to_ch l (to1 S x)
    have h1 : (to1 S x).ch.length ≤ S.ch.length + 1 ∧ (to1 S x).go = S.go ∧ (to1 S x).T = S.T ∧ (to1 S x).now = S.now ∧ (to1 S x).room = S.room := by
      unfold to1
      split
      · exact ⟨mark_len _ _ _, rfl, rfl, rfl, rfl⟩
      · exact ⟨by omega, rfl, rfl, rfl, rfl⟩
    refine ⟨?_, b.trans h1.2.1, c.trans h1.2.2.1, d.trans h1.2.2.2.1, e.trans h1.2.2.2.2⟩
    show (toS (to1 S x) l).ch.length ≤ _
    rw [List.length_cons]
    have := h1.1
    omega
theorem BSc.to {X : Sc} {m k : Nat} (h : Bd X.S m) (l : List Int) (L : FT) (hl : X.S.ch.length + l.length + L.length ≤ k) (hm : m ≤ k) : BSc ⟨toS X.S l, L⟩ k := by
  obtain ⟨a, b, c, d, e⟩ := to_ch l X.S
  exact ⟨by show (toS X.S l).ch.length + L.length ≤ k; omega, by show (toS X.S l).go.length ≤ k; rw [b]; exact Nat.le_trans h.2.1 hm, fun i hi => by show ((toS X.S l).T i).length ≤ k; rw [c]; exact Nat.le_trans (h.2.2.1 i hi) hm, by show 0 < (toS X.S l).now; rw [d]; exact h.2.2.2.1, by show (toS X.S l).now ≤ _; rw [d]; have := h.2.2.2.2.1; omega, by show (toS X.S l).room ≤ 256; rw [e]; exact h.2.2.2.2.2⟩
theorem sp_ch (S : St) (P : PT) : (spS S P).ch.length ≤ S.ch.length + 1 := by
  unfold spS
  split
  · exact mark_len _ _ _
  · omega
theorem lay_ch (S : St) (id : Int) (P : PT) : (layS S id P).ch.length ≤ S.ch.length + 1 := by
  unfold layS
  split
  · exact mark_len _ _ _
  · omega
theorem pu_ch (S : St) (id : Int) (Q : PT) (ks : List Int) : (puS S id Q ks).ch.length ≤ S.ch.length + 1 := by
  unfold puS
  split
  · exact lay_ch _ _ _
  · omega
theorem cu_ch (S : St) (id : Int) (ks : List Int) : (cuS S id ks).ch.length ≤ S.ch.length + 1 := by
  unfold cuS
  split
  · exact lay_ch _ _ _
  · omega
theorem de_ch (S : St) (id : Int) : (deS S id).ch = S.ch := by unfold deS; split <;> rfl
theorem bd_pu {S : St} {m : Nat} (h : Bd S m) (id : Int) (Q : PT) (ks : List Int) : Bd (puS S id Q ks) (m + 1) := by
  unfold puS
  split
  · exact bd_lay h _ _
  · exact h.mono (by omega)
theorem bd_cu {S : St} {m : Nat} (h : Bd S m) (id : Int) (ks : List Int) : Bd (cuS S id ks) (m + 1) := by
  unfold cuS
  split
  · exact bd_lay h _ _
  · exact h.mono (by omega)
theorem BSc.sp {X : Sc} {m : Nat} (h : BSc X m) (P : PT) (p : Int) : BSc (xspS X P p) (m + 2) := by
  unfold xspS
  split
  · exact h.mono (by omega)
  · refine BSc.of (X := ⟨_, _⟩) (bd_sp h.bd P) ?_ (by omega)
    have h1 := sp_ch X.S P
    have h2 := h.1
    show (spS X.S P).ch.length + (if spE X.S P = 0 ∧ 0 ≤ p then _ else _ : FT).length ≤ _
    split
    · have := set_len9 X.L (spV X.S P) p
      omega
    · omega
theorem BSc.de {X : Sc} {m : Nat} (h : BSc X m) (hw : WX X) (id : Int) : BSc (xdeS X id) (m + 2) := by
  unfold xdeS
  split
  · refine BSc.to (X := ⟨deS X.S id, X.L⟩) (bd_de h.bd id) _ _ ?_ (by omega)
    have h1 := drop_len9 hw.wf.1 id
    have h2 := h.1
    show (deS X.S id).ch.length + _ + _ ≤ _
    rw [de_ch]
    omega
  · exact h.mono (by omega)
theorem BSc.pu {X : Sc} {m : Nat} (h : BSc X m) (id : Int) (Q : PT) (ks : List Int) : BSc (xpuS X id Q ks) (m + 2) := by
  refine BSc.of (X := ⟨_, _⟩) (bd_pu h.bd id Q ks) ?_ (by omega)
  have h1 := pu_ch X.S id Q ks
  have h2 := h.1
  show (puS X.S id Q ks).ch.length + X.L.length ≤ _
  omega
theorem BSc.cu {X : Sc} {m : Nat} (h : BSc X m) (id : Int) (ks : List Int) : BSc (xcuS X id ks) (m + 2) := by
  refine BSc.of (X := ⟨_, _⟩) (bd_cu h.bd id ks) ?_ (by omega)
  have h1 := cu_ch X.S id ks
  have h2 := h.1
  show (cuS X.S id ks).ch.length + X.L.length ≤ _
  omega
theorem BSc.ad {X : Sc} {m : Nat} (h : BSc X m) (c p : Int) : BSc (xadS X c p) (m + 2) := by
  unfold xadS
  split
  · refine BSc.to h.bd _ _ ?_ (by omega)
    have h1 := set_len9 X.L c p
    have h2 := h.1
    show X.S.ch.length + 1 + _ ≤ _
    omega
  · exact h.mono (by omega)
theorem BSc.fr {X : Sc} {m : Nat} (h : BSc X m) (c : Int) : BSc (xfrS X c) (m + 2) := by
  unfold xfrS
  have h1 := free_len X.L c
  have h2 := h.1
  split
  · by_cases q : (parO X.L c).isSome = true
    · rw [if_pos q]
      refine BSc.to h.bd _ _ ?_ (by omega)
      show X.S.ch.length + 1 + _ ≤ _
      omega
    · rw [if_neg q]
      exact BSc.of (X := ⟨_, _⟩) h.bd (by show X.S.ch.length + (freeF X.L c).length ≤ _; omega) (by omega)
  · exact h.mono (by omega)
theorem BSc.ne {X : Sc} {m : Nat} (h : BSc X m) : BSc (xneS X) (m + 2) := BSc.of (X := ⟨_, _⟩) (bd_ne h.bd) (by have := h.1; show X.S.ch.length + X.L.length ≤ _; omega) (by omega)

structure ToldX (I : Int → PT → Prop) (Io : Int → Option Int) (since : Int) (X : Sc) : Prop where
  wx : WX X
  told : Told (fun _ => True) I since X.S
  par : ∀ x, liveS X.S x = true → parO X.L x = Io x ∨ CH since X.S x
section
variable {I : Int → PT → Prop} {Io : Int → Option Int} {since : Int} {X : Sc}
theorem ToldX.sp (h : ToldX I Io since X) (P : PT) (p : Int) : ToldX I Io since (xspS X P p) := by
  refine ⟨h.wx.sp P p, ?_, ?_⟩
  · unfold xspS
    split
    · exact h.told
    · exact h.told.spawn P
  · unfold xspS
    by_cases c : noP X.S p = true
    · rw [if_pos c]; exact h.par
    · rw [if_neg c]
      intro x hx
      show parO (if spE X.S P = 0 ∧ 0 ≤ p then _ else _) x = _ ∨ CH since (spS X.S P) x
      have hn := h.told.now
      by_cases he : spE X.S P = 0
      · rcases (live_sp h.wx.ws he x).1 hx with hl | e
        · by_cases e : x = spV X.S P
          · exact Or.inr (by rw [e]; exact ch_spn hn he)
          · rcases h.par x hl with q | q
            · refine Or.inl ?_
              split
              · rw [par_set9 e]; exact q
              · exact q
            · exact Or.inr (ch_sp hn P q)
        · exact Or.inr (by rw [e]; exact ch_spn hn he)
      · have e : spS X.S P = X.S := by unfold spS; rw [if_neg he]
        rw [if_neg (fun hh => he hh.1), e]
        exact h.par x (by rw [← e]; exact hx)
theorem ToldX.de (h : ToldX I Io since X) (id : Int) : ToldX I Io since (xdeS X id) := by
  refine ⟨h.wx.de id, ?_, ?_⟩
  · unfold xdeS
    split
    · exact Told.to _ (h.told.de id)
    · exact h.told
  · unfold xdeS
    by_cases he : deE X.S id = 0
    · rw [if_pos he]
      intro x hx
      have hn := h.told.now
      show parO (dropF X.L id) x = _ ∨ CH since (toS (deS X.S id) (chF X.L id)) x
      have hx2 : liveS (deS X.S id) x = true := by rw [← live_tos (chF X.L id)]; exact hx
      obtain ⟨k1, k2⟩ := (live_de h.wx.ws he x).1 hx2
      have hn2 : since < (deS X.S id).now := by rw [now_de]; exact hn
      by_cases m : x ∈ chF X.L id
      · exact Or.inr (ch_ton _ hn2 m hx2)
      · rcases h.par x k1 with q | q
        · exact Or.inl (by rw [par_drop, if_neg (fun z => z.elim m k2)]; exact q)
        · exact Or.inr (ch_to _ hn2 (ch_de id q))
    · rw [if_neg he]; exact h.par
theorem ToldX.pu (h : ToldX I Io since X) (id : Int) (Q : PT) (ks : List Int) : ToldX I Io since (xpuS X id Q ks) :=
  ⟨h.wx.pu id Q ks, h.told.pu id Q ks, fun x hx => (h.par x (by rw [← live_pu h.wx.ws id Q ks]; exact hx)).imp_right (ch_pu h.told.now id Q ks)⟩
theorem ToldX.cu (h : ToldX I Io since X) (id : Int) (ks : List Int) : ToldX I Io since (xcuS X id ks) :=
  ⟨h.wx.cu id ks, h.told.cu id ks, fun x hx => (h.par x (by rw [← live_cu h.wx.ws id ks]; exact hx)).imp_right (ch_cu h.told.now id ks)⟩
theorem ToldX.ad (h : ToldX I Io since X) (c p : Int) : ToldX I Io since (xadS X c p) := by
  refine ⟨h.wx.ad c p, ?_, ?_⟩
  · unfold xadS
    split
    · exact Told.to _ h.told
    · exact h.told
  · unfold xadS
    by_cases he : xadE X c p = 0
    · rw [if_pos he]
      intro x hx
      have hx2 : liveS X.S x = true := by rw [← live_tos [c]]; exact hx
      have hn := h.told.now
      show parO (setS9 X.L c p) x = _ ∨ CH since (toS X.S [c]) x
      by_cases e : x = c
      · exact Or.inr (ch_ton _ hn (by rw [e]; exact List.mem_cons_self) hx2)
      · rcases h.par x hx2 with q | q
        · exact Or.inl (by rw [par_set9 e]; exact q)
        · exact Or.inr (ch_to _ hn q)
    · rw [if_neg he]; exact h.par
theorem ToldX.fr (h : ToldX I Io since X) (c : Int) : ToldX I Io since (xfrS X c) := by
  refine ⟨h.wx.fr c, ?_, ?_⟩
  · unfold xfrS
    split
    · show Told _ I since (if (parO X.L c).isSome then toS X.S [c] else X.S)
      split
      · exact Told.to _ h.told
      · exact h.told
    · exact h.told
  · unfold xfrS
    by_cases he : liveS X.S c = true
    · rw [if_pos he]
      intro x
      show liveS (if (parO X.L c).isSome then toS X.S [c] else X.S) x = true → parO (freeF X.L c) x = _ ∨ CH since (if (parO X.L c).isSome then toS X.S [c] else X.S) x
      have hn := h.told.now
      by_cases q : (parO X.L c).isSome = true
      · rw [if_pos q, live_tos]
        intro hx
        by_cases e : x = c
        · exact Or.inr (ch_ton _ hn (by rw [e]; exact List.mem_cons_self) hx)
        · rcases h.par x hx with z | z
          · exact Or.inl (by rw [par_free, if_neg e]; exact z)
          · exact Or.inr (ch_to _ hn z)
      · rw [if_neg q]
        intro hx
        have q' : parO X.L c = none := by simpa using q
        rcases h.par x hx with z | z
        · refine Or.inl ?_
          rw [par_free]
          by_cases e : x = c
          · rw [if_pos e, ← z, e, q']
          · rw [if_neg e]; exact z
        · exact Or.inr z
    · rw [if_neg he]; exact h.par
theorem ToldX.ne (h : ToldX I Io since X) : ToldX I Io since (xneS X) := ⟨h.wx.ne, h.told.ne, h.par⟩
end
theorem ToldX.start {X : Sc} (h : WX X) : ToldX (fun x P => inS X.S x P) (parO X.L) X.S.now (xneS X) := ⟨h.ne, Told.start h.ws, fun _ _ => Or.inl rfl⟩
theorem ToldX.first {r : Nat} (h : r ≤ 256) : ToldX (fun _ _ => False) (fun _ => none) 0 (Sc0 r) := ⟨WX.zero h, Told.first h, fun _ _ => Or.inl rfl⟩
theorem ToldX.same {I0 : Sc} {X : Sc} {since : Int} (h0 : WX I0) (h : ToldX (fun x P => inS I0.S x P) (parO I0.L) since X) {x : Int} (hl : liveS X.S x = true) (hc : x ∉ chL X.S since) : x ∈ alS I0.S ∧ nodeX I0 x = nodeX X x ∧ getP I0.S x = getP X.S x := by
  have hn : ¬ CH since X.S x := fun q => hc (mem_ch.2 ⟨hl, q⟩)
  obtain ⟨P, hP⟩ := (h.wx.ws.live x).1 hl
  have h1 : inS I0.S x P := (h.told.chg x P hP).resolve_right hn
  have h2 : parO X.L x = parO I0.L x := (h.par x hl).resolve_right hn
  have g1 := h0.ws.get h1
  have g2 := h.wx.ws.get hP
  have b1 : getB I0.S x = true := getB_iff.2 ⟨P, h1⟩
  have b2 : getB X.S x = true := getB_iff.2 ⟨P, hP⟩
  refine ⟨(mem_all h0.ws).2 ((h0.ws.live x).2 ⟨P, h1⟩), ?_, by rw [g1, g2]⟩
  unfold nodeX
  rw [if_pos b1, if_pos b2, g1, g2, h2]
theorem ToldX.gone {I0 : Sc} {X : Sc} {since : Int} (h0 : WX I0) (h : ToldX (fun x P => inS I0.S x P) (parO I0.L) since X) {x : Int} (hx : x ∈ alS I0.S) : x ∈ alS X.S ∨ x ∈ goL X.S since := by
  obtain ⟨P, hP⟩ := (h0.ws.live x).1 ((mem_all h0.ws).1 hx)
  rcases h.told.gon x P hP with ⟨Q, hQ⟩ | q
  · exact Or.inl ((mem_all h.wx.ws).2 ((h.wx.ws.live x).2 ⟨Q, hQ⟩))
  · exact Or.inr (mem_go.2 q)
theorem drops_mem : ∀ (xs : List Int) {D : FD} {m : Nd}, m ∈ (dropS D xs).L ↔ m ∈ D.L ∧ m.id ∉ xs
  | [], D, m => by simp [dropS]
  | x :: xs, D, m => by
    show m ∈ (dropS (dropFD D x) xs).L ↔ _
    rw [drops_mem xs, List.mem_cons, not_or]
    have : m ∈ (dropFD D x).L ↔ m ∈ D.L ∧ m.id ≠ x := by
      unfold dropFD
      by_cases c : dropFB D x = true
      · rw [if_pos c]
        show m ∈ D.L.filter (fun m => m.id != x) ↔ _
        rw [List.mem_filter]
        simp
      · rw [if_neg c]
        refine ⟨fun h => ⟨h, fun e => c ?_⟩, And.left⟩
        unfold dropFB
        exact el_isSome.2 ⟨m, h, e⟩
    rw [this, and_assoc]
theorem drops_rest : ∀ (xs : List Int) (D : FD), (dropS D xs).begun = D.begun ∧ (dropS D xs).sts = D.sts
  | [], D => ⟨rfl, rfl⟩
  | x :: xs, D => by
    obtain ⟨h1, h2⟩ := drops_rest xs (dropFD D x)
    have : (dropFD D x).begun = D.begun ∧ (dropFD D x).sts = D.sts := by unfold dropFD; split <;> exact ⟨rfl, rfl⟩
    exact ⟨h1.trans this.1, h2.trans this.2⟩
theorem drops_el (xs : List Int) {D : FD} (h : DOk D) (y : Int) : elF Nd.id (dropS D xs).L y = if y ∈ xs then none else elF Nd.id D.L y := by
  by_cases c : y ∈ xs
  · rw [if_pos c, el_none]
    intro m hm e
    exact ((drops_mem xs).1 hm).2 (e ▸ c)
  · rw [if_neg c]
    exact el_ext h.nod (fun m hm => (drops_mem xs).trans ⟨And.left, fun q => ⟨q, hm ▸ c⟩⟩)
def NodesX (X : Sc) (L : List Nd) : Prop := ∀ x, elF Nd.id L x = if liveS X.S x = true then some (nodeX X x) else none
theorem node_id13 {X : Sc} (h : WX X) {z : Int} (hz : liveS X.S z = true) : (nodeX X z).id = z := by
  unfold nodeX
  rw [if_pos (by rw [← live_in h.ws]; exact hz)]
theorem nodes_hang {X : Sc} (h : WX X) {L : List Nd} (hN : NodesX X L) (x : Int) : hangs L x = if liveS X.S x = true then (parO X.L x).getD (-1) else -1 := by
  unfold hangs
  rw [hN x]
  by_cases c : liveS X.S x = true
  · rw [if_pos c, if_pos c]
    have e : (nodeX X x).par = (parO X.L x).getD (-1) := by
      unfold nodeX
      rw [if_pos (by rw [← live_in h.ws]; exact c)]
    show (if (nodeX X x).par < 0 ∨ (elF Nd.id L (nodeX X x).par).isNone = true then -1 else (nodeX X x).par) = _
    rw [e]
    cases q : parO X.L x with
    | none => rfl
    | some y =>
      have hy := (h.kid _ (par_mem q)).2
      show (if y < 0 ∨ (elF Nd.id L y).isNone = true then -1 else y) = y
      rw [hN y, if_pos hy]
      have : 0 ≤ y := (live_iff.1 hy).1
      rw [if_neg (by simp; omega)]
  · rw [if_neg c, if_neg c]
theorem nodes_par {X : Sc} (h : WX X) {L : List Nd} (hn : (L.map Nd.id).Nodup) (hN : NodesX X L) (x : Int) : parO (treesN L) x = parO X.L x := by
  rw [par_trees hn, nodes_hang h hN]
  by_cases c : liveS X.S x = true
  · rw [if_pos c]
    cases q : parO X.L x with
    | none => rfl
    | some y =>
      have : 0 ≤ y := (live_iff.1 (h.kid _ (par_mem q)).2).1
      show (if 0 ≤ y then some y else none) = some y
      rw [if_pos this]
  · rw [if_neg c, if_neg (by omega)]
    cases q : parO X.L x with
    | none => rfl
    | some y => exact absurd (h.kid _ (par_mem q)).1 c
section
variable {α : Type}
theorem at_mid (L : List α) (x : α) (R : List α) : (L ++ x :: R)[L.length]? = some x := by simp
theorem set_mid (L : List α) (x y : α) (R : List α) : (L ++ x :: R).set L.length y = L ++ y :: R := by
  rw [List.set_append_right _ _ (Nat.le_refl _), Nat.sub_self, List.set_cons_zero]
theorem set_far (L : List α) (x : α) (M : List α) (y z : α) (R : List α) : (L ++ x :: (M ++ y :: R)).set (L.length + 1 + M.length) z = L ++ x :: (M ++ z :: R) := by
  have h : L ++ x :: (M ++ y :: R) = (L ++ x :: M) ++ y :: R := by simp
  rw [h, show L.length + 1 + M.length = (L ++ x :: M).length by simp; omega, set_mid]
  simp
theorem swap_at' (L : List α) (x : α) (M : List α) (y : α) (R : List α) : ((L ++ x :: (M ++ y :: R)).set (L.length + 1 + M.length) x).set L.length y = L ++ y :: (M ++ x :: R) := by
  rw [set_far, set_mid]
end

section
variable {α : Type} (key : α → Int)
def Fil (L M : List α) : Prop := ∀ k, M.filter (fun x => key x == k) = L.filter (fun x => key x == k)
def Asc (L : List α) : Prop := L.Pairwise (fun a b => key a ≤ key b)
variable {key}
theorem Fil.refl (L : List α) : Fil key L L := fun _ => rfl
theorem Fil.trans {A B C : List α} (h : Fil key A B) (h' : Fil key B C) : Fil key A C := fun k => (h' k).trans (h k)
theorem Fil.app {A A' B B' : List α} (h : Fil key A A') (h' : Fil key B B') : Fil key (A ++ B) (A' ++ B') := fun k => by
  rw [List.filter_append, List.filter_append, h k, h' k]
theorem fil_cross {A B : List α} (h : ∀ a ∈ A, ∀ b ∈ B, key a ≠ key b) : Fil key (A ++ B) (B ++ A) := fun k => by
  rw [List.filter_append, List.filter_append]
  by_cases hA : A.filter (fun x => key x == k) = []
  · rw [hA]; simp
  · obtain ⟨a, ha⟩ := List.exists_mem_of_ne_nil _ hA
    have ha' := List.mem_filter.1 ha
    have hB : B.filter (fun x => key x == k) = [] := by
      rw [List.filter_eq_nil_iff]
      intro b hb
      have := h a ha'.1 b hb
      have e : key a = k := by simpa using ha'.2
      rw [e] at this
      simpa using fun c => this c.symm
    rw [hB]; simp
theorem Fil.mid {P Q : List α} {S S' : List α} (h : Fil key S S') : Fil key (P ++ S ++ Q) (P ++ S' ++ Q) := ((Fil.refl P).app h).app (Fil.refl Q)
theorem asc_at {L : List α} (h : Asc key L) {i j : Nat} (hij : i ≤ j) {a b : α} (ha : L[i]? = some a) (hb : L[j]? = some b) : key a ≤ key b := by
  rcases Nat.lt_or_eq_of_le hij with h1 | rfl
  · obtain ⟨hi, ei⟩ := List.getElem?_eq_some_iff.1 ha
    obtain ⟨hj, ej⟩ := List.getElem?_eq_some_iff.1 hb
    have := List.pairwise_iff_getElem.1 h i j hi hj h1
    rw [ei, ej] at this
    exact this
  · rw [ha] at hb; injection hb with e; rw [e]; exact Int.le_refl _
theorem asc_of {L : List α} (h : ∀ (i j : Nat) (a b : α), i < j → L[i]? = some a → L[j]? = some b → key a ≤ key b) : Asc key L :=
  List.pairwise_iff_getElem.2 fun i j hi hj hij => h i j _ _ hij (List.getElem?_eq_getElem hi) (List.getElem?_eq_getElem hj)
def AscIn (key : α → Int) (X : List α) (lo hi : Nat) : Prop := ∀ (i j : Nat) (a b : α), lo ≤ i → i < j → j < hi → X[i]? = some a → X[j]? = some b → key a ≤ key b
theorem AscIn.mid {P S Q : List α} (h : Asc key S) : AscIn key (P ++ S ++ Q) P.length (P.length + S.length) := fun i j a b h1 h2 h3 ha hb => by
  rw [List.append_assoc, List.getElem?_append_right h1, List.getElem?_append_left (by omega)] at ha
  rw [List.append_assoc, List.getElem?_append_right (by omega), List.getElem?_append_left (by omega)] at hb
  exact asc_at h (by omega) ha hb
theorem AscIn.out {X : List α} {lo hi : Nat} (h : AscIn key X lo hi) : Asc key ((X.drop lo).take (hi - lo)) := asc_of fun i j a b hij ha hb => by
  have hj : j < hi - lo := by
    obtain ⟨hj, _⟩ := List.getElem?_eq_some_iff.1 hb
    rw [List.length_take] at hj; omega
  rw [List.getElem?_take, if_pos (by omega), List.getElem?_drop] at ha
  rw [List.getElem?_take, if_pos hj, List.getElem?_drop] at hb
  exact h (lo + i) (lo + j) a b (by omega) (by omega) (by omega) ha hb
theorem AscIn.one (X : List α) {lo hi : Nat} (h : hi ≤ lo + 1) : AscIn key X lo hi := fun i j _ _ h1 h2 h3 => by omega
structure SStep (key : α → Int) (X Y : List α) (lo hi : Nat) : Prop where
  len : Y.length = X.length
  fil : Fil key X Y
  out : ∀ i, i < lo ∨ hi ≤ i → Y[i]? = X[i]?
theorem SStep.refl (X : List α) (lo hi : Nat) : SStep key X X lo hi := ⟨rfl, Fil.refl X, fun _ _ => rfl⟩
theorem SStep.trans {X Y Z : List α} {lo hi : Nat} (h : SStep key X Y lo hi) (h' : SStep key Y Z lo hi) : SStep key X Z lo hi :=
  ⟨h'.len.trans h.len, h.fil.trans h'.fil, fun i hi => (h'.out i hi).trans (h.out i hi)⟩
theorem SStep.wide {X Y : List α} {lo hi lo' hi' : Nat} (h : SStep key X Y lo hi) (h1 : lo' ≤ lo) (h2 : hi ≤ hi') : SStep key X Y lo' hi' :=
  ⟨h.len, h.fil, fun i hi => h.out i (by omega)⟩
theorem SStep.mid {P S S' Q : List α} (hl : S'.length = S.length) (h : Fil key S S') : SStep key (P ++ S ++ Q) (P ++ S' ++ Q) P.length (P.length + S.length) :=
  ⟨by simp [hl], h.mid, fun i hi => by
    rcases hi with hi | hi
    · rw [List.append_assoc, List.append_assoc, List.getElem?_append_left hi, List.getElem?_append_left hi]
    · rw [List.getElem?_append_right (by simp; omega), List.getElem?_append_right (by simp; omega)]
      simp [hl]⟩
theorem three {X : List α} {lo hi : Nat} (h1 : lo ≤ hi) (h2 : hi ≤ X.length) : X = X.take lo ++ (X.drop lo).take (hi - lo) ++ X.drop hi ∧ (X.take lo).length = lo ∧ ((X.drop lo).take (hi - lo)).length = hi - lo := by
  refine ⟨?_, by rw [List.length_take]; omega, by rw [List.length_take, List.length_drop]; omega⟩
  have e : X.drop hi = (X.drop lo).drop (hi - lo) := by rw [List.drop_drop]; congr 1; omega
  rw [e, List.append_assoc, List.take_append_drop, List.take_append_drop]
end
structure Rc where
  id : Int
  ms : Int
  pp : Int
  mt : Int
  cl : Bool
  ly : Int
  x0 : Int
  x1 : Int
  x2 : Int
  x3 : Int
  x4 : Int
  x5 : Int
def cRc (r : Rc) : List Value := [.int .i64 r.id, .int .i64 r.ms, .int .i64 r.pp, .int .i64 r.mt, .bool r.cl, .int .i64 r.ly, .int .i64 r.x0, .int .i64 r.x1, .int .i64 r.x2, .int .i64 r.x3, .int .i64 r.x4, .int .i64 r.x5]
def zRc : Rc := ⟨0, 0, 0, 0, false, 0, 0, 0, 0, 0, 0, 0⟩
theorem cRc_len (r : Rc) : (cRc r).length = 12 := rfl
theorem cRc_one (r : Rc) : ∀ u ∈ cRc r, u.oneCell' = true := fun u hu => by
  unfold cRc at hu
  simp only [List.mem_cons, List.not_mem_nil, or_false] at hu
  rcases hu with h | h | h | h | h | h | h | h | h | h | h | h <;> (rw [h]; rfl)
def cmpI (a b : Int) : Int := if a < b then -1 else if b < a then 1 else 0
theorem cmp_neg {a b : Int} : cmpI a b < 0 ↔ a < b := by
  unfold cmpI
  by_cases h : a < b
  · simp [h]
  · by_cases h' : b < a <;> simp [h, h']

section
variable {α : Type} {k : Nat} {c : α → List Value} {t : TypeId} {w w' : World} {g : Nat} {X : List α}
def MR (k : Nat) (c : α → List Value) (t : TypeId) (w : World) (g : Nat) (X : List α) : Prop := ∃ cur : List Value, Blk w g t cur.toArray ∧ X.length * k ≤ cur.length ∧ cur.take (X.length * k) = X.flatMap c
theorem MR.lt (h : MR k c t w g X) : g < w.heap.size := h.elim fun _ q => q.1.lt
theorem MR.same (h : MR k c t w g X) (e : w'.heap[g]? = w.heap[g]?) : MR k c t w' g X := h.imp fun _ q => ⟨q.1.same e, q.2⟩
theorem MR.keep (h : MR k c t w g X) (hb : Below w.heap.size w w') : MR k c t w' g X := h.same (hb.block g h.lt)
theorem MR.range (hc : ∀ x, (c x).length = k) (h : MR k c t w g X) {i : Nat} {x : α} (hi : X[i]? = some x) : w.rangeAt g (i * k) (c x) := by
  obtain ⟨cur, hb, hl, ht⟩ := h
  have hlt : i < X.length := (List.getElem?_eq_some_iff.1 hi).1
  have h2 : (i + 1) * k ≤ X.length * k := Nat.mul_le_mul_right _ hlt
  rw [Nat.add_mul] at h2
  have h1 := blk_range hb (i * k) k
  rw [← flatx_at hc X i x hi, ← ht, List.drop_take, List.take_take, Nat.min_eq_left (by omega)]
  exact h1
theorem MR.there (h : MR k c t w g X) {i : Nat} (hi : i < X.length) : w.there g (i * k) k := by
  obtain ⟨cur, hb, hl, ht⟩ := h
  have h2 : (i + 1) * k ≤ X.length * k := Nat.mul_le_mul_right _ hi
  rw [Nat.add_mul] at h2
  exact blk_there hb (by omega)
theorem flatx_set (hc : ∀ x, (c x).length = k) : ∀ (X : List α) (i : Nat) (y : α), i < X.length → (X.set i y).flatMap c = splice (X.flatMap c) (i * k) (c y)
  | [], i, y, h => by simp at h
  | a :: X, 0, y, h => by
    unfold splice
    rw [List.set_cons_zero, List.flatMap_cons, List.flatMap_cons, Nat.zero_mul, List.take_zero, Nat.zero_add, hc y, List.nil_append, ← hc a, List.drop_left]
  | a :: X, i + 1, y, h => by
    have ih := flatx_set hc X i y (by simpa using h)
    unfold splice at ih ⊢
    have e : (i + 1) * k = k + i * k := by rw [Nat.add_mul]; omega
    rw [List.set_cons_succ, List.flatMap_cons, List.flatMap_cons, ih, e, List.take_append, List.drop_append, hc a, List.take_of_length_le (l := c a) (by rw [hc a]; omega), List.drop_eq_nil_of_le (show (c a).length ≤ k + i * k + (c y).length by rw [hc a]; omega), show k + i * k - k = i * k by omega, show k + i * k + (c y).length - k = i * k + (c y).length by omega]
    simp
theorem splicex_take {A vs : List Value} {o n : Nat} (h : o + vs.length ≤ n) (hn : n ≤ A.length) : (splice A o vs).take n = splice (A.take n) o vs := by
  unfold splice
  rw [List.take_append, List.take_append, List.take_take, List.drop_take, List.length_append, List.length_take, Nat.min_eq_left (show o ≤ A.length by omega), List.take_take, Nat.min_eq_right (show o ≤ n by omega), Nat.min_eq_left (show o ≤ n by omega), List.take_of_length_le (show vs.length ≤ n - o by omega)]
theorem MR.set_ (hc : ∀ x, (c x).length = k) (h : MR k c t w g X) {i : Nat} (hi : i < X.length) (y : α) : MR k c t (w.setCells g (i * k) (c y)) g (X.set i y) := by
  obtain ⟨cur, hb, hl, ht⟩ := h
  have h2 : (i + 1) * k ≤ X.length * k := Nat.mul_le_mul_right _ hi
  rw [Nat.add_mul] at h2
  have hb' := blk_setCells (c y) (o := i * k) hb (by rw [hc]; omega)
  refine ⟨_, hb', ?_, ?_⟩
  · rw [List.length_set, splice_len (by rw [hc]; omega)]; exact hl
  · rw [List.length_set, splicex_take (by rw [hc]; omega) hl, ht, flatx_set hc X i y hi]
theorem grown_cells : ∀ (vs : List Value) (w : World) (g o : Nat), w.grownBy (w.setCells g o vs) (some g)
  | [], _, _, _ => ⟨rfl, rfl, rfl, Nat.le_refl _, fun _ _ _ => rfl⟩
  | v :: vs, w, g, o => grown_trans (grown_set w g o v) (grown_cells vs (w.setCell ⟨g, o, none⟩ v) g (o + 1))
end
def DR (w : World) (t : TypeId) (g : Nat) (w' : World) (X : List Rc) : Prop := MR 12 cRc t w' g X ∧ w.grownBy w' (some g)
theorem DR.below {w w' w'' : World} {t : TypeId} {g : Nat} {X : List Rc} (h : DR w t g w' X) (hb : Below w'.heap.size w' w'') : DR w t g w'' X := ⟨h.1.keep hb, grown_trans h.2 (below_grown hb _)⟩
theorem DR.next {w w' w'' : World} {t : TypeId} {g : Nat} {X Y : List Rc} (h : DR w t g w' X) (h' : DR w' t g w'' Y) : DR w t g w'' Y := ⟨h'.1, grown_trans h.2 h'.2⟩
theorem DR.start {w : World} {t : TypeId} {g : Nat} {X : List Rc} (h : MR 12 cRc t w g X) : DR w t g w X := ⟨h, below_grown (Below.refl _ _) _⟩
theorem DR.swap {w w' : World} {t : TypeId} {g : Nat} {X : List Rc} (h : DR w t g w' X) {p q : Nat} (hp : p < X.length) (hq : q < X.length) (x y : Rc) : DR w t g ((w'.drew.setCells g (p * 12) (cRc y)).setCells g (q * 12) (cRc x)) ((X.set p y).set q x) := by
  have h0 : MR 12 cRc t w'.drew g X := h.1.keep (bdrew (Below.refl _ _))
  have h1 := h0.set_ cRc_len hp y
  have h2 := h1.set_ cRc_len (i := q) (by simpa using hq) x
  exact ⟨h2, grown_trans h.2 (grown_trans (below_grown (bdrew (Below.refl _ _)) _) (grown_trans (grown_cells _ _ _ _) (grown_cells _ _ _ _)))⟩

theorem enters_by : Enters 222 := fun _ _ => by kernel_rfl
theorem enters_same : Enters 219 := fun _ _ => by kernel_rfl
theorem nan_any (a : Int) (w : World) : Calls Tryz.prog 261 #[.int .i64 a] w fun e w' => e = .returned (.bool false) ∧ w = w' := by
  go_enter Tryz.func261, Tryz.ntmps261
  go_wp2
  go_ret
  exact ⟨by simp, rfl⟩
theorem cmp_any (a b : Int) (w : World) : Calls Tryz.prog 224 #[.int .i64 a, .int .i64 b] w fun e w' => e = .returned (.int .i64 (cmpI a b)) ∧ w = w' := by
  have HE : Hid (∀ x : Int, cmpI x x = 0) := Lib.hid (fun x => by unfold cmpI; simp)
  have HL : Hid (∀ x y : Int, x < y → cmpI x y = -1) := Lib.hid (fun x y h => by unfold cmpI; simp [h])
  have HG : Hid (∀ x y : Int, y < x → cmpI x y = 1) := Lib.hid (fun x y h => by unfold cmpI; rw [if_neg (by omega), if_pos h])
  have HNa := Lib.hid (nan_any)
  by_cases h : a < b
  · go_enter Tryz.func224, Tryz.ntmps224
    go_wp2_with fail
    refine (HNa.out _ _).mono ?_
    rintro e w1 ⟨rfl, rfl⟩
    go_wp2_with fail
    refine (HNa.out _ _).mono ?_
    rintro e w1 ⟨rfl, rfl⟩
    go_wp2
    go_ret
    exact ⟨by rw [HL.out _ _ h]; rfl, rfl⟩
  · by_cases h2 : b < a
    · have h3 : a > b := h2
      go_enter Tryz.func224, Tryz.ntmps224
      go_wp2_with fail
      refine (HNa.out _ _).mono ?_
      rintro e w1 ⟨rfl, rfl⟩
      go_wp2_with fail
      refine (HNa.out _ _).mono ?_
      rintro e w1 ⟨rfl, rfl⟩
      go_wp2
      go_ret
      exact ⟨by rw [HG.out _ _ h2]; rfl, rfl⟩
    · obtain rfl : a = b := by omega
      go_enter Tryz.func224, Tryz.ntmps224
      go_wp2_with fail
      refine (HNa.out _ _).mono ?_
      rintro e w1 ⟨rfl, rfl⟩
      go_wp2_with fail
      refine (HNa.out _ _).mono ?_
      rintro e w1 ⟨rfl, rfl⟩
      go_wp2
      go_ret
      exact ⟨by rw [HE.out]; rfl, rfl⟩
theorem by_any (a b : Rc) (w : World) : Calls Tryz.prog 222 #[.agg (cRc a).toArray, .agg (cRc b).toArray] w fun e w' => e = .returned (.int .i64 (cmpI a.id b.id)) ∧ Below w.heap.size w w' := by
  have HC := Lib.hid (cmp_any a.id b.id)
  have K0 : Hid ((((w.alloc (.cells (cRc a).toArray 92)).alloc (.cells (cRc b).toArray 92)).cell? ⟨w.heap.size, 0, none⟩ = some (.int .i64 a.id)) ∧ (((w.alloc (.cells (cRc a).toArray 92)).alloc (.cells (cRc b).toArray 92)).cell? ⟨w.heap.size + 1, 0, none⟩ = some (.int .i64 b.id))) := Lib.hid ⟨((Blk.new w 92 (cRc a).toArray).alloc (.cells (cRc b).toArray 92)).cell 0, by
      have q := (Blk.new (w.alloc (.cells (cRc a).toArray 92)) 92 (cRc b).toArray).cell 0
      have e : (w.alloc (.cells (cRc a).toArray 92)).heap.size = w.heap.size + 1 := by simp
      rw [e] at q
      exact q⟩
  have HB : Hid (Below w.heap.size w ((w.alloc (.cells (cRc a).toArray 92)).alloc (.cells (cRc b).toArray 92))) := Lib.hid (balloc (alloc_below _ _) _)
  obtain ⟨A, hA⟩ : ∃ A, A = (cRc a).toArray := ⟨_, rfl⟩
  obtain ⟨B, hB⟩ : ∃ B, B = (cRc b).toArray := ⟨_, rfl⟩
  rw [← hA, ← hB] at K0 HB ⊢
  clear hA hB
  go_enter Tryz.func222, Tryz.ntmps222
  go_upto_region 1 with fail
  refine fin (fun W => W.cell? ⟨w.heap.size, 0, none⟩ = some (.int .i64 a.id) ∧ W.cell? ⟨w.heap.size + 1, 0, none⟩ = some (.int .i64 b.id) ∧ Below w.heap.size w W) ⟨K0.out.1, K0.out.2, HB.out⟩ ?_
  rintro W ⟨c0, c1, hb⟩
  have HB1 := Lib.hid hb
  clear hb HB K0
  go_wp2_with fail
  refine (HC.out _).mono ?_
  rintro e w1 ⟨rfl, rfl⟩
  go_wp2
  go_ret
  exact ⟨rfl, HB1.out⟩
theorem samename_any (a b : Rc) (w : World) : Calls Tryz.prog 219 #[.agg (cRc a).toArray, .agg (cRc b).toArray] w fun e w' => e = .returned (.bool (a.id == b.id)) ∧ Below w.heap.size w w' := by
  have K0 : Hid ((((w.alloc (.cells (cRc a).toArray 92)).alloc (.cells (cRc b).toArray 92)).cell? ⟨w.heap.size, 0, none⟩ = some (.int .i64 a.id)) ∧ (((w.alloc (.cells (cRc a).toArray 92)).alloc (.cells (cRc b).toArray 92)).cell? ⟨w.heap.size + 1, 0, none⟩ = some (.int .i64 b.id))) := Lib.hid ⟨((Blk.new w 92 (cRc a).toArray).alloc (.cells (cRc b).toArray 92)).cell 0, by
      have q := (Blk.new (w.alloc (.cells (cRc a).toArray 92)) 92 (cRc b).toArray).cell 0
      have e : (w.alloc (.cells (cRc a).toArray 92)).heap.size = w.heap.size + 1 := by simp
      rw [e] at q
      exact q⟩
  have HB : Hid (Below w.heap.size w ((w.alloc (.cells (cRc a).toArray 92)).alloc (.cells (cRc b).toArray 92))) := Lib.hid (balloc (alloc_below _ _) _)
  obtain ⟨A, hA⟩ : ∃ A, A = (cRc a).toArray := ⟨_, rfl⟩
  obtain ⟨B, hB⟩ : ∃ B, B = (cRc b).toArray := ⟨_, rfl⟩
  rw [← hA, ← hB] at K0 HB ⊢
  clear hA hB
  go_enter Tryz.func219, Tryz.ntmps219
  go_upto_region 1 with fail
  refine fin (fun W => W.cell? ⟨w.heap.size, 0, none⟩ = some (.int .i64 a.id) ∧ W.cell? ⟨w.heap.size + 1, 0, none⟩ = some (.int .i64 b.id) ∧ Below w.heap.size w W) ⟨K0.out.1, K0.out.2, HB.out⟩ ?_
  rintro W ⟨c0, c1, hb⟩
  have HB1 := Lib.hid hb
  clear hb HB K0
  go_wp2
  go_ret
  exact ⟨rfl, HB1.out⟩
end Go.Proofs.YthhfcedhbfandaaGreat
